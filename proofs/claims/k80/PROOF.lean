import PyProof.Rows.All
import Wide.All
import OpenK.AllK
import Wide.FinOn
import HandS.Deep
import HandS.Wide
import HandS.TupAny
import HandS.ForMost
import HandS.EndTab
import HandS.AnyAll
import HandS.GenList
import HandS.SortInts
import HandS.Strs
import HandS.Style
import HandS.Flow
import HandS.IsInst
import HandS.SetFor
import HandS.Zip
import HandS.Star
import HandS.HeadWalk
import KE.KNest
import HandS.Conv
import HandS.Gcd
import KE.KMathGC
import KE.SortData
import KE.DataCmp
import HandS.RepeatKit
import KE.GoesMore
import KE.GoesEnum
import HandS.Iter
import KE.DataMinMax
import HandS.SortKw
import HandS.TupMul
import KE.KTupSum
import HandS.Sort
import PySem.Challenge.RW_firstthere_k80_across_all_namings
set_option Elab.async false
set_option linter.all false
set_option maxRecDepth 100000
set_option maxHeartbeats 4000000
namespace Gq
open PySem PySem.Spec PyProof.Rows L2
def SqTF (K : PySem.W.Frag) (H : Hp) (a : Addr) (xs : List V) : Prop :=
  (∃ o, H a = some (.frz o (.tup xs)) ∧ o.dict = none) ∨
    ∃ (o : Obj) (its : Array Value) (n : Nat), K.lookup a = some o ∧ o.cls = .type "tuple" ∧ o.dict = none ∧ o.data = .seq its n ∧ its.size ≤ sizeLine ∧ Vals xs its.toList
theorem SqTF.sqt {K : PySem.W.Frag} {H : Hp} {a : Addr} {xs : List V} (h : SqTF K H a xs) : SqT K H a xs := by
  rcases h with ⟨o, h, _⟩ | ⟨o, its, n, h1, h2, _, h4, h5, h6⟩
  · exact .inl (.inr ⟨o, h⟩)
  · exact .inr ⟨o, its, n, h1, h2, h4, h5, h6⟩
def NewT (H : Hp) (vs : List V) (Q : VK) : Prop := ∀ p o, H p = none → o.dict = none → Q (.ref p) (upd H p (.frz o (.tup vs)))
def tObj (us : Array Value) : Obj := { cls := .type "tuple", data := .seq us }
section
variable {X : Cx}
theorem new_tup {pins : List (Addr × Obj)} {σ : L2.St} {H : Hp} {s : Shared} {vs : List V} {us : List Value} {Q : VK} {t : Nat} (I : Inv X pins σ H s) (r : Vals vs us) (hz : vs.length ≤ sizeLine) (q : NewT H vs Q) :
    EP X pins σ Q (.ref s.heap.objs.size) { s with heap := s.heap.push (tObj us.toArray), toks := t } := by
  have hf : H s.heap.objs.size = none := I.hok.fresh (Nat.le_refl _)
  refine ⟨.ref s.heap.objs.size, upd H s.heap.objs.size (.frz (tObj us.toArray) (.tup vs)), I.laid (fun b u e => Heap.get?_push_of_some _ e) (Nat.le_refl _) ?_, rfl, q _ _ hf rfl⟩
  exact ⟨Heap.get?_push_size _ rfl, hz, us, r, IsTup.new _ _⟩
section
variable {es : List Expr} {t : TA} {pos : Pos}
def tTupF (t : TA) : TE := fun σ H Q => t σ H fun xs H1 => xs.length ≤ sizeLine ∧ NewT H1 xs Q
theorem pe_tupF {x1} (h : PA X es t) : PE X (.Tuple es x1 pos) (tTupF t) := by
  refine ⟨fun pins s σ H Q I hq => ?_⟩
  exact wpAny_Tuple_spliced (thn (h.run pos pins s σ H _ I hq) fun us s1 ⟨xs, H1, I1, r, z, q⟩ => ⟨by rw [← r.length]; exact z, new_tup I1 r z q⟩)
end
def rTupF (K : PySem.W.Frag) : List V → Hp → VK → Prop := fun xs H Q => ∃ p ys, xs = [.ref p] ∧ ((SqL K H p ys ∧ NewT H ys Q) ∨ (SqT K H p ys ∧ Q (.ref p) H))
theorem call_tupF : CallR X (.type "tuple") (rTupF X.K) := by
  intro pins s σ H xs us Q I r h
  obtain ⟨p, ys, rfl, h⟩ := h
  obtain ⟨u, rfl, rx⟩ := vals1 r
  cases rx
  rcases h with ⟨hq, q⟩ | ⟨hq, q⟩
  · obtain ⟨its, r', pl, hz⟩ := I.list hq
    have hlen := r'.length
    refine call_tuple_list pl.isList (fun h' kp => ?_) (by simp only [List.size_toArray] <;> omega)
    exact new_tup (I.kept (t' := s.toks) kp) r' hz q
  · obtain ⟨its, r', pl, hz⟩ := I.tuple hq
    exact call_tuple_same pl ⟨.ref p, H, I, rfl, q⟩
def rCatF (K : PySem.W.Frag) : R2 := fun x y H Q => ∃ a b xs ys, x = .ref a ∧ y = .ref b ∧ SqT K H a xs ∧ SqT K H b ys ∧ xs.length + ys.length ≤ sizeLine ∧
  (xs = [] → Q (.ref b) H) ∧ (ys = [] → Q (.ref a) H) ∧ NewT H (xs ++ ys) Q
theorem op_catF : OpR X (binaryOp .Add) (rCatF X.K) := by
  intro pins s σ H x y v u Q I rx ry h
  obtain ⟨a, b, xs, ys, rfl, rfl, ha, hb, hz, q0, q1, q2⟩ := h
  cases rx
  cases ry
  obtain ⟨its, r1, p1, _⟩ := I.tuple ha
  obtain ⟨its2, r2, p2, _⟩ := I.tuple hb
  by_cases hx : xs = []
  · subst hx
    cases r1
    exact cat_tup0 p1 p2 ⟨.ref b, H, I, rfl, q0 rfl⟩
  · exact HT.cat_tup p1 p2 (fun z => hx (r1.nil_iff.mp z)) (fun z => ⟨.ref a, H, I, rfl, q1 (r2.nil_iff.mp z)⟩) (fun z => new_tup I (r1.append r2) (by rw [List.length_append]; exact hz) q2) (by rw [← r1.length, ← r2.length]; exact hz)
def rSlF (K : PySem.W.Frag) : V → Option Int → Option Int → Hp → VK → Prop := fun x lo hi H Q => ∃ a xs, x = .ref a ∧ SqT K H a xs ∧ (cutV xs lo hi = xs → Q (.ref a) H) ∧ NewT H (cutV xs lo hi) Q
theorem cut_whole {xs : List V} {lo hi : Option Int} (h : HT.sIx xs.length 0 lo = 0 ∧ HT.sIx xs.length xs.length hi = xs.length) : cutV xs lo hi = xs := by
  unfold cutV
  rw [h.1, h.2]
  simp
theorem sl_tupF : SlR X (rSlF X.K) := by
  intro pins s σ H x v vl vu lo hi sl Q I rx hs pl pu h
  obtain ⟨a, xs, rfl, hx, q1, q2⟩ := h
  cases rx
  obtain ⟨its, r, ht, hz⟩ := I.tuple hx
  have hlen : its.toArray.size = xs.length := by rw [List.size_toArray]; exact r.length.symm
  refine ⟨"tuple", _, PyProof.Rows.slot_tuple_getitem.lookup, ht.typeIs, ?_⟩
  by_cases hw : HT.sIx xs.length 0 lo = 0 ∧ HT.sIx xs.length xs.length hi = xs.length
  · exact getItem_tuple_whole ht hs pl pu (by rw [hlen]; exact hw) ⟨.ref a, H, I, rfl, q1 (cut_whole hw)⟩
  · refine HT.getItem_tuple_cut ht hs pl pu (by rw [hlen]; exact hw) ?_ (by rw [hlen]; exact hz)
    rw [hlen]
    exact new_tup (vs := cutV xs lo hi) I ((r.drop (HT.sIx xs.length 0 lo)).take (HT.sIx xs.length xs.length hi - HT.sIx xs.length 0 lo)) (Nat.le_trans (cutV_length xs lo hi) hz) q2
end
end Gq
set_option Elab.async false
set_option linter.all false
set_option maxRecDepth 100000
set_option maxHeartbeats 4000000
namespace Gq
open PySem PySem.Spec PyProof.Rows L2 GenW
abbrev Slots := List (Option V)
theorem over_comp {A : Around} {elt : Expr} {gens : List Comprehension} {scope : Scope} {pos : Pos} {it acc : Value} {env : Env} :
    A.over (.compLoop (.GeneratorExp elt gens scope pos) 0 it acc env) [] = A.deeper env := by
  first
    | rfl
    | (obtain ⟨hd, d, fr, gs, u⟩ := A; simp [Around.over, Around.deeper, marksOver, frameCount, unitsOf, envsOf, guardsOf, pushEnvs, pushGuards, Code.envs, Code.env?, Code.isFrame, Code.guards, Code.isGuard, Code.weight, Code.frames, Code.isCreation, Code.isCaller, Code.cUnits])
structure Con where
  S : Addr
  CS : List V → Obj → Prop
  W : Nat → Nat → List V → Hp → Prop
  U : Nat → Nat → List V → V → Hp → Prop
  Dn : List V → Hp → Prop
def GQ (X : Cx) (C : Con) (ip : List (Addr × Obj)) (o : Obj) (ys : List V) (σ : Slots) (H : Hp) (s : Shared) : Prop := C.CS ys o ∧ Inv X ((C.S, o) :: ip) σ H s
def YQ (X : Cx) (C : Con) (p0 : List (Addr × Obj)) : Protocol := fun n s₀ v s kap =>
  ∃ o i m ys x ip σ H, s₀.heap.get? C.S = some o ∧ (∀ p ∈ ip, p.1 ≠ C.S) ∧ RelV x v ∧ GQ X C (p0 ++ ip) o ys σ H s ∧ C.U i m ys x H ∧ ∀ s' o' m', m' < m → GQ X C (p0 ++ ip) o' (ys ++ [x]) σ H s' → C.W (i + 1) m' (ys ++ [x]) H → kap (.send .none) s'
def RQ (X : Cx) (C : Con) (p0 : List (Addr × Obj)) : GenEnd := fun n s₀ r s => r = .ok .next ∧ ∃ o ys σ H, s₀.heap.get? C.S = some o ∧ C.Dn ys H ∧ GQ X C p0 o ys σ H s
def SubS (σ σ' : Slots) : Prop := σ.length = σ'.length ∧ ∀ (i : Nat) v, σ[i]? = some (some v) → σ'[i]? = some (some v)
def Turns (C : Con) (J : It) (σ0 : Slots) (g : TG) (tt : TT) (te : TE) : Prop := ∀ i m ys H, C.W i m ys H →
  (J.stop i H ∧ C.Dn ys H) ∨ (J.go i H ∧ ∀ x H', J.yld i H x H' → g x σ0 H' fun σ2 H2 => SubS σ0 σ2 ∧ tt σ2 H2 fun b H3 =>
    if b = true then te σ2 H3 fun y H4 => C.U i m ys y H4 else ∃ m', m' < m ∧ C.W (i + 1) m' ys H3)
section
variable {X : Cx} {C : Con} {p0 : List (Addr × Obj)} {B : Around} {elt target iter : Expr} {ifs : List Expr} {scope : Scope} {pos : Pos} {it : Addr} {J : It} {fp : List Addr} {tn : Nat → Heap → Prop} {σ0 : Slots} {g : TG} {tt : TT} {te : TE}
theorem GQ.unpin {ip : List (Addr × Obj)} {o : Obj} {ys : List V} {σ : Slots} {H : Hp} {s : Shared} (h : GQ X C (p0 ++ ip) o ys σ H s) : GQ X C p0 o ys σ H s := by
  obtain ⟨hc, I⟩ := h
  exact ⟨hc, I.pins_of fun p hp => I.pin p (List.mem_append_right _ (by
    rcases List.mem_cons.mp hp with e | hp
    · rw [e]; exact List.mem_cons_self
    · exact List.mem_cons_of_mem _ (List.mem_append_left _ hp)))⟩
theorem seg_loop (hA : X.A = B.deeper X.env) (hc : X.calm = true) (hx : X.xe = fun _ _ => False) (hco : X.env.scope.isCoroutine = false)
    (T : Turn X.prog X.w X.K target J fp it tn) (hpn : ∀ p ∈ X.pn, p.1 ∉ fp) (hp0 : ∀ p ∈ p0, p.1 ∉ fp) (hS : C.S ∉ fp)
    (hfp : ∀ b ∈ fp, b ≠ X.env.locals ∧ b ∉ X.fs ∧ (b ∈ X.ex ∨ X.s_0.heap.objs.size ≤ b) ∧ (∀ x c, X.env.cells.lookup x = some c → c ≠ b))
    (hg : PG X target g) (ht : PTs X ifs tt) (he : PE X elt te) (turn : Turns C J σ0 g tt te) :
    ∀ (m n i : Nat) (o : Obj) (ys : List V) (s₀ s : Shared) (H : Hp), m < n → C.W i m ys H → s₀.heap.get? C.S = some o → GQ X C p0 o ys σ0 H s → tn i s.heap → (∀ b ∈ fp, H b = none) →
      Seg (model X.prog X.w) B (RQ X C p0) (YQ X C p0) n s₀ (.compLoop (.GeneratorExp elt [⟨target, iter, ifs, 0⟩] scope pos) 0 (.ref it) .none X.env)
        ((model X.prog X.w).den (.compLoop (.GeneratorExp elt [⟨target, iter, ifs, 0⟩] scope pos) 0 (.ref it) .none X.env)) [] s := by
  have stat : ∀ {o : Obj} {H' : Hp}, (∀ b ∈ fp, H' b = none) → ∀ b ∈ fp, FpOk X ((C.S, o) :: p0) H' b := fun {o H'} hn b hb => by
    obtain ⟨h1, h2, h3, h4⟩ := hfp b hb
    refine ⟨hn b hb, h1, h2, h3, h4, fun p hp z => ?_⟩
    rcases List.mem_append.mp hp with hp | hp
    · exact hpn p hp (z ▸ hb)
    · rcases List.mem_cons.mp hp with e | hp
      · rw [e] at z; exact hS (by rw [show C.S = b from z]; exact hb)
      · exact hp0 p hp (z ▸ hb)
  intro m
  induction m using Nat.strongRecOn with
  | ind m ih =>
    intro n i o ys s₀ s H hmn hw h0 hI st hn
    obtain ⟨hcs, I⟩ := hI
    show Seg _ B _ _ _ s₀ _ ((compTurn (.GeneratorExp elt [⟨target, iter, ifs, 0⟩] scope pos) 0 (.ref it) .none X.env).onRaise (leaving X.env)) [] s
    rw [compTurn_gen, Sem.onRaise_eq_wrap]
    refine seg_bind_wrap (wpAny_standAt ?_)
    have noX : ∀ (x : Value) (s' : Shared), X.xe x s' → False := fun x s' z => by rw [hx] at z; exact z
    rcases turn i m ys H hw with ⟨hstop, hd⟩ | ⟨hgo, step⟩
    · refine seg_bind_wrap ?_
      rw [over_comp, ← hA]
      refine wpAny_mono (T.done X rfl rfl rfl hc i _ s σ0 H (fun _ _ => False) I (stat hn) st hstop) (fun r s1 ⟨hr, I1⟩ => ?_) fun _ _ z => z.elim
      subst hr
      exact seg_end (.ok .next) ⟨rfl, o, ys, σ0, H, h0, hd, hcs, I1⟩
    · refine seg_bind_wrap ?_
      rw [over_comp, ← hA]
      refine wpAny_mono (T.item X rfl rfl rfl hc i _ s σ0 H (fun _ _ => False) I (stat hn) st hgo) (fun r s1 ⟨u, hr, h1⟩ => ?_) fun _ _ z => z.elim
      subst hr
      refine seg_bind_wrap ?_
      rw [over_comp, ← hA]
      refine wpAny_mono h1 (fun _ s2 ⟨x, H2, I2, r2, y2, st2, n2⟩ => ?_) fun _ _ z => z.elim
      have I2' : Inv X ((C.S, o) :: p0 ++ pinsAt fp s2.heap) σ0 H2 s2 := I2.pinned (stat n2) (T.obj _ _ st2)
      refine seg_bind_wrap ?_
      rw [over_comp, ← hA]
      refine wpAny_mono (hg.run _ s2 σ0 H2 x u _ I2' r2 (step x H2 y2)) (fun _ s3 ⟨σ3, H3, I3, hsub, q3⟩ => ?_) fun _ _ z => (noX _ _ z).elim
      refine seg_bind_wrap ?_
      rw [over_comp, ← hA]
      refine wpAny_mono (ht.run _ s3 σ3 H3 _ I3 q3) (fun b s4 ⟨H4, I4, q4⟩ => ?_) fun _ _ z => (noX _ _ z).elim
      -- the iterator's records behind a run with the pins
      have after : ∀ {σ' : Slots} {H' : Hp} {s' : Shared} {o' : Obj}, Inv X ((C.S, o') :: (p0 ++ pinsAt fp s2.heap)) σ' H' s' → tn (i + 1) s'.heap ∧ (∀ b ∈ fp, H' b = none) := fun {σ' H' s' o'} I' => by
        refine ⟨T.keep _ _ _ st2 fun b hb ob e => (I'.pin (b, ob) (List.mem_append_right _ (List.mem_cons_of_mem _ (List.mem_append_right _ (mem_pinsAt hb e))))).1, fun b hb => ?_⟩
        obtain ⟨ob, e, d⟩ := T.obj _ _ st2 b hb
        exact (I'.pin (b, ob) (List.mem_append_right _ (List.mem_cons_of_mem _ (List.mem_append_right _ (mem_pinsAt hb e))))).2.1
      cases b with
      | false =>
        rw [if_neg Bool.false_ne_true] at q4
        obtain ⟨m', hm', w4⟩ := q4
        simp only [Bool.false_eq_true, if_false]
        have I4' : Inv X ((C.S, o) :: (p0 ++ pinsAt fp s2.heap)) σ3 H4 s4 := I4
        obtain ⟨st4, n4⟩ := after I4'
        exact seg_again rfl (ih m' hm' n (i + 1) o ys s₀ s4 H4 (by omega) w4 h0 (GQ.unpin (ip := pinsAt fp s2.heap) ⟨hcs, I4'.weak hsub.1 hsub.2⟩) st4 n4)
      | true =>
        rw [if_pos rfl] at q4
        simp only [if_true]
        have hy : ∀ v, yieldOut X.env v = yieldValue v := fun v => by simp only [yieldOut, hco, Bool.false_eq_true, if_false]
        simp only [hy]
        rw [Sem.bind_eq_wrap', Sem.bind_eq_wrap', Sem.wrap_wrap, Sem.wrap_wrap]
        refine seg_wrap ?_
        rw [over_comp, ← hA]
        refine wpAny_mono (he.run _ s4 σ3 H4 _ I4 q4) (fun y s5 ⟨vy, H5, I5, r5, q5⟩ => ?_) fun _ _ z => (noX _ _ z).elim
        have I5' : Inv X ((C.S, o) :: (p0 ++ pinsAt fp s2.heap)) σ3 H5 s5 := I5
        cases n with
        | zero => exact absurd hmn (Nat.not_lt_zero _)
        | succ n =>
          refine seg_at (seg_yield rfl rfl rfl ⟨o, i, m, ys, vy, pinsAt fp s2.heap, σ3, H5, h0, fun p hp z => hS (by rw [← z]; exact (of_pinsAt hp).1), r5, ⟨hcs, I5'⟩, q5, fun s' o' m' hm' hI' hw' => ?_⟩)
          obtain ⟨hcs', I'⟩ := hI'
          obtain ⟨st', n'⟩ := after I'
          exact seg_again rfl (ih m' hm' n (i + 1) o' (ys ++ [vy]) s' s' H5 (by omega) hw' (I'.pin (C.S, o') (List.mem_append_right _ List.mem_cons_self)).1 (GQ.unpin (ip := pinsAt fp s2.heap) ⟨hcs', I'.weak hsub.1 hsub.2⟩) st' n')
end
end Gq
set_option Elab.async false
set_option linter.all false
set_option maxRecDepth 100000
set_option maxHeartbeats 4000000
namespace Gq
open PySem PySem.Spec PyProof.Rows L2 GenW
section
variable {X : Cx} {C : Con} {p0 : List (Addr × Obj)} {B : Around} {elt target iter : Expr} {ifs : List Expr} {scope : Scope} {pos : Pos} {it : Addr} {J : It} {fp : List Addr} {tn : Nat → Heap → Prop} {σ0 : Slots} {g : TG} {tt : TT} {te : TE}
theorem seg_begin (hA : X.A = B.deeper X.env) (hc : X.calm = true) (hx : X.xe = fun _ _ => False) (hco : X.env.scope.isCoroutine = false)
    (T : Turn X.prog X.w X.K target J fp it tn) (hpn : ∀ p ∈ X.pn, p.1 ∉ fp) (hp0 : ∀ p ∈ p0, p.1 ∉ fp) (hS : C.S ∉ fp)
    (hfp : ∀ b ∈ fp, b ≠ X.env.locals ∧ b ∉ X.fs ∧ (b ∈ X.ex ∨ X.s_0.heap.objs.size ≤ b) ∧ (∀ x c, X.env.cells.lookup x = some c → c ≠ b))
    (hg : PG X target g) (ht : PTs X ifs tt) (he : PE X elt te) (turn : Turns C J σ0 g tt te)
    (m n : Nat) (s₀ s : Shared) (H : Hp) (hmn : m < n) (o : Obj) (hw : C.W 0 m [] H) (h0 : s₀.heap.get? C.S = some o) (hI : GQ X C p0 o [] σ0 H s) (st : tn 0 s.heap) (hn : ∀ b ∈ fp, H b = none) :
      Seg (model X.prog X.w) B (RQ X C p0) (YQ X C p0) n s₀ (.compStart (.GeneratorExp elt [⟨target, iter, ifs, 0⟩] scope pos) 0 (.ref it) .none X.env)
        ((model X.prog X.w).den (.compStart (.GeneratorExp elt [⟨target, iter, ifs, 0⟩] scope pos) 0 (.ref it) .none X.env)) [] s := by
  have loop := seg_loop (iter := iter) (scope := scope) (pos := pos) hA hc hx hco T hpn hp0 hS hfp hg ht he turn m n 0 o [] s₀ s H hmn hw h0 hI st hn
  show Seg _ B _ _ _ s₀ _ ((compStart (.GeneratorExp elt [⟨target, iter, ifs, 0⟩] scope pos) 0 (.ref it) .none X.env).onRaise (leaving X.env)) [] s
  unfold compStart
  rw [Sem.onRaise_eq_wrap]
  show Seg _ B _ _ _ s₀ _ ((ask >>= _).wrap _ _ _ _) [] s
  refine seg_bind_wrap (wpAny_askSetting ?_)
  split
  · exact seg_again rfl loop
  · first
      | exact seg_bind_wrap (wpAny_rule (seg_bind_wrap (wpAny_standAt (seg_bind_wrap (T.self _ 0 s _ _ st (seg_again rfl loop))))))
      | (refine seg_bind_wrap (wpAny_rule ?_); show Seg _ B _ _ _ s₀ _ ((standAt iter.pos >>= _).wrap _ _ _ _) [] s; exact seg_bind_wrap (wpAny_standAt (seg_bind_wrap (T.self _ 0 s _ _ st (seg_again rfl loop)))))
theorem inv_gens {pins : List (Addr × Obj)} {σ : Slots} {H : Hp} {s : Shared} {g' : Array GenState} {h' : Heap} {t' : Nat} (I : Inv X pins σ H s) (hg : AllBare g') (k : ∀ b u, s.heap.get? b = some u → h'.get? b = some u) :
    Inv X pins σ H { s with heap := h', gens := g', toks := t' } := by
  refine I.step (h' := h') (g' := g') (t' := t') (d' := s.drawn) (ch := []) (fun b hb => absurd hb (by simp)) (fun b o _ _ _ e n => k b o e) (fun b o _ _ _ e n => ⟨o.slots, k b o e⟩) (fun b o _ e n => n) (fun b o _ e => ⟨o, k b o e⟩)
    (fun _ _ e => e) (fun _ _ _ e => e) (fun b ps e => ⟨#[], by rw [e]; simp⟩) (fun m hm => ?_) (I.hok.kept k) hg
  obtain ⟨o, es, ep, ho, r⟩ := hm
  exact ⟨o, es, ep, k _ o ho, r⟩
theorem GQ.gens {o : Obj} {ys : List V} {σ : Slots} {H : Hp} {s : Shared} {g' : Array GenState} {h' : Heap} {t' : Nat} (h : GQ X C p0 o ys σ H s) (hg : AllBare g') (k : ∀ b u, s.heap.get? b = some u → h'.get? b = some u) :
    GQ X C p0 o ys σ H { s with heap := h', gens := g', toks := t' } := by
  obtain ⟨hc, I⟩ := h
  exact ⟨hc, inv_gens I hg k⟩
theorem GQ.bare {o : Obj} {ys : List V} {σ : Slots} {H : Hp} {s : Shared} (h : GQ X C p0 o ys σ H s) : AllBare s.gens := h.2.bare
theorem GQ.at {o : Obj} {ys : List V} {σ : Slots} {H : Hp} {s : Shared} (h : GQ X C p0 o ys σ H s) : s.heap.get? C.S = some o := (h.2.pin (C.S, o) (List.mem_append_right _ List.mem_cons_self)).1
def GSt (X : Cx) (C : Con) (p0 : List (Addr × Obj)) (B : Around) (g : Nat) (n : Nat) (s : Shared) : Prop :=
  ∃ gs, s.gens[g]? = some gs ∧ gs.Goes (model X.prog X.w) B (RQ X C p0) (YQ X C p0) n (.send .none) (s.setGen g .running)
theorem next_gq {B0 : Around} {a : Addr} {gn n : Nat} {s : Shared} {Q : Option Value → Shared → Prop} {E : Value → Shared → Prop} (hh : B0.handled = none) (hroom : B0.depth < recursionLimit) (hl : s.heap.NoLimit) (hga : s.heap.IsGen a gn)
    (hgs : GSt X C p0 B0.in1 gn n s)
    (hY : ∀ o i m ys x v ip σ H s1, s.heap.get? C.S = some o → (∀ p ∈ ip, p.1 ≠ C.S) → RelV x v → GQ X C (p0 ++ ip) o ys σ H s1 → C.U i m ys x H →
      (∀ s' o' m', m' < m → GQ X C (p0 ++ ip) o' (ys ++ [x]) σ H s' → s'.gens[gn]? = s1.gens[gn]? → C.W (i + 1) m' (ys ++ [x]) H → ∃ n', n' < n ∧ GSt X C p0 B0.in1 gn n' s') → Q (some v) s1)
    (hP : ∀ o ys σ H s1, s.heap.get? C.S = some o → C.Dn ys H → GQ X C p0 o ys σ H s1 → Q none s1) : wpAny (model X.prog X.w) B0 (pyNext (.ref a)) Q E s := by
  obtain ⟨gs, e, hgo⟩ := hgs
  have hlt : gn < s.gens.size := by
    rcases Nat.lt_or_ge gn s.gens.size with h' | h'
    · exact h'
    · rw [Array.getElem?_eq_none h'] at e; cases e
  refine wpAny_gsz (n := s.gens.size) (Nat.le_refl _) ?_
  refine wpAny_pyNext_genexpQ (P := fun n s₀ s1 => ∃ o ys σ H, s₀.heap.get? C.S = some o ∧ C.Dn ys H ∧ GQ X C p0 o ys σ H s1) hh hl hroom hga e hgo (fun v s1 gs' hb hv => ?_) (fun s1 hp h' hk => ?_)
  · intro hsz
    obtain ⟨o, i, m, ys, x, ip, σ, H, h0, hi, rx, hq, hu, kap⟩ := hv
    have hlt1 : gn < s1.gens.size := by
      have q := setGen_size s1 gn gs'
      omega
    refine hY o i m ys x v ip σ H _ h0 hi rx ?_ hu fun s' o' m' hm' hq' hg' hw' => ?_
    · exact hq.gens (h' := s1.heap) (t' := s1.toks) (allBare_setGen hq.bare hb) fun _ _ z => z
    · have hgs' : s'.gens[gn]? = some gs' := by rw [hg']; exact setGen_at hlt1
      have hr : GQ X C (p0 ++ ip) o' (ys ++ [x]) σ H (s'.setGen gn .running) := hq'.gens (h' := s'.heap) (t' := s'.toks) (allBare_setGen hq'.bare rfl) fun _ _ z => z
      have K := kap (s'.setGen gn .running) o' m' hm' hr hw'
      cases n with
      | zero => exact False.elim K
      | succ n => exact ⟨n, Nat.lt_succ_self _, gs', hgs', K⟩
  · obtain ⟨o, ys, σ, H, h0, hd, hq⟩ := hp
    intro _
    exact hP o ys σ H _ h0 hd (hq.gens (allBare_setGen hq.bare rfl) hk)
end
end Gq
set_option Elab.async false
set_option linter.all false
set_option maxRecDepth 100000
set_option maxHeartbeats 4000000
namespace Gq
open PySem PySem.Spec PyProof.Rows L2 GenW
structure Cons (X : Cx) (C : Con) (p0 : List (Addr × Obj)) (B0 A : Around) (a : Addr) (gn : Nat) : Prop where
  hh : B0.handled = none
  room : B0.depth < recursionLimit
  down : ∀ {α : Type} {t : Sem α} {Q : α → Shared → Prop} {E : Value → Shared → Prop} {s : Shared}, wpAny (model X.prog X.w) B0 t Q E s → wpAny (model X.prog X.w) A.in1 t Q E s
  gen : ∀ s : Shared, (∀ p ∈ p0, s.heap.get? p.1 = some p.2) → s.heap.IsGen a gn
section
variable {X : Cx} {C : Con} {p0 : List (Addr × Obj)} {B0 A : Around} {a : Addr} {gn : Nat}
theorem Cons.gen_at (K : Cons X C p0 B0 A a gn) {ip : List (Addr × Obj)} {o : Obj} {ys : List V} {σ : Slots} {H : Hp} {s : Shared} (h : GQ X C (p0 ++ ip) o ys σ H s) : s.heap.IsGen a gn :=
  K.gen s fun p hp => (h.2.pin p (List.mem_append_right _ (List.mem_cons_of_mem _ (List.mem_append_left _ hp)))).1
theorem all_loop {R : Result → Shared → Prop} {Fin : Bool → Hp → Prop} (K : Cons X C p0 B0 A a gn) (hCS : ∀ ys x o, C.CS ys o → C.CS (ys ++ [x]) o)
    (hU : ∀ i m ys x H, C.U i m ys x H → ∃ c, x = .bl c ∧ (if c = true then ∃ m', m' < m ∧ C.W (i + 1) m' (ys ++ [x]) H else Fin false H)) (hD : ∀ ys H, C.Dn ys H → Fin true H)
    (hR : ∀ b o ys σ H s', Fin b H → GQ X C p0 o ys σ H s' → R (.ok (.ret (.bool b))) s') :
    ∀ (n : Nat) (s : Shared), s.heap.NoLimit → s.heap.IsGen a gn → GSt X C p0 B0.in1 gn n s → codeAny (model X.prog X.w) A (.builtin "all.loop" ⟨[.ref a], []⟩) R s := by
  intro n
  induction n using Nat.strongRecOn with
  | ind n ih =>
    intro s hl hga hgs
    refine codeAny_builtin F.entry_all_loop ?_
    rw [Around.under_plainId F.plain_all_loop _]
    show wpAny _ A.in1 (pyNext (.ref a) >>= _) _ _ s
    refine wpAny_bind (K.down (next_gq K.hh K.room hl hga hgs (fun o i m ys x v ip σ H s1 h0 hi rx hq hu kap => ?_) fun o ys σ H s1 h0 hd hq => ?_))
    · obtain ⟨c, rfl, hc⟩ := hU i m ys x H hu
      obtain rfl : v = Value.bool c := rx
      refine wpAny_bind (wpAny_holding (wpAny_truthy_bool ?_))
      refine wpAny_bind (wpAny_letGo ?_)
      cases c with
      | true =>
        rw [if_pos rfl] at hc
        obtain ⟨m', hm', hw⟩ := hc
        simp only [if_true]
        obtain ⟨n', hn', hgs'⟩ := kap s1 o m' hm' ⟨hCS _ _ _ hq.1, hq.2⟩ rfl hw
        exact wpAny_pure ⟨plainId_quiet F.plain_all_loop _, ih n' hn' s1 hq.2.nolimit (K.gen_at hq) hgs'⟩
      | false =>
        rw [if_neg Bool.false_ne_true] at hc
        simp only [Bool.false_eq_true, if_false]
        exact wpAny_bind (wpAny_rule (wpAny_pure (hR false o ys σ H s1 hc hq.unpin)))
    · exact wpAny_bind (wpAny_rule (wpAny_pure (hR true o ys σ H s1 (hD ys H hd) hq)))
theorem inv_pin {S : Addr} {o o' : Obj} {ip : List (Addr × Obj)} {σ : Slots} {H : Hp} {s : Shared} {h' : Heap} {t' : Nat} (I : Inv X ((S, o) :: ip) σ H s) (h1 : S ∈ X.ex ∨ X.s_0.heap.objs.size ≤ S) (hc : ∀ x c, X.env.cells.lookup x = some c → c ≠ S)
    (hp : ∀ p ∈ X.pn ++ ip, p.1 ≠ S) (k : ∀ b u, b ≠ S → s.heap.get? b = some u → h'.get? b = some u) (hS : h'.get? S = some o') (hd : ∀ v, o'.data ≠ .cell v) : Inv X ((S, o') :: ip) σ H { s with heap := h', toks := t' } := by
  obtain ⟨e1, e2, e3, e4, e5⟩ := I.pin (S, o) (List.mem_append_right _ List.mem_cons_self)
  have I0 : Inv X ip σ H s := I.pins_of fun p hp => I.pin p (List.mem_append_right _ (List.mem_cons_of_mem _ hp))
  have J : Inv X ip σ H { s with heap := h', toks := t' } := I0.turned k e2 e3 h1 hc hp
  refine J.pins_of fun p hp => ?_
  rcases List.mem_cons.mp hp with e | hp
  · rw [e]; exact ⟨hS, e2, e3, e4, hd⟩
  · exact J.pin p (List.mem_append_right _ hp)
structure Own (X : Cx) (C : Con) (p0 : List (Addr × Obj)) : Prop where
  new : X.s_0.heap.objs.size ≤ C.S
  cells : ∀ x c, X.env.cells.lookup x = some c → c ≠ C.S
  pn : ∀ p ∈ X.pn, p.1 ≠ C.S
theorem ext_loop {R : Result → Shared → Prop} {Fin : List V → Hp → Prop} {res : Value} (K : Cons X C p0 B0 A a gn) (O : Own X C p0) (hip : ∀ p ∈ p0, p.1 ≠ C.S)
    (hCS : C.CS = fun ys o => ∃ acc c, Vals ys acc.toList ∧ o = lstObj acc c)
    (hU : ∀ i m ys x H, C.U i m ys x H → ys.length < sizeLine ∧ ∃ m', m' < m ∧ C.W (i + 1) m' (ys ++ [x]) H) (hD : ∀ ys H, C.Dn ys H → Fin ys H)
    (hR : ∀ acc c ys σ H s', Fin ys H → Vals ys acc.toList → GQ X C p0 (lstObj acc c) ys σ H s' → R (.ok (.ret res)) s') :
    ∀ (n : Nat) (s : Shared), s.heap.NoLimit → s.heap.IsGen a gn → GSt X C p0 B0.in1 gn n s → codeAny (model X.prog X.w) A (.builtin "list.extend.loop" ⟨[.ref C.S, .ref a, res], []⟩) R s := by
  intro n
  induction n using Nat.strongRecOn with
  | ind n ih =>
    intro s hl hga hgs
    refine codeAny_builtin F.entry_extend_loop ?_
    rw [Around.under_plainId F.plain_extend_loop _]
    show wpAny _ A.in1 (pyNext (.ref a) >>= _) _ _ s
    refine wpAny_bind (K.down (next_gq K.hh K.room hl hga hgs (fun o i m ys x v ip σ H s1 h0 hi rx hq hu kap => ?_) fun o ys σ H s1 h0 hd hq => ?_))
    · obtain ⟨hlen, m', hm', hw⟩ := hU i m ys x H hu
      have hcs := hq.1
      rw [hCS] at hcs
      obtain ⟨acc, c, rv, rfl⟩ := hcs
      have hS := hq.at
      have sz : acc.size = ys.length := by rw [rv.length]; simp
      show wpAny _ A.in1 (updateSeq C.S (·.push v) >>= _) _ _ _
      refine wpAny_bind ?_
      refine wpAny_updateSeq hS rfl (wpAny_pure ⟨plainId_quiet F.plain_extend_loop _, ?_⟩) (by rw [sz]; omega) (by show (acc.push v).size ≤ sizeLine + 1; rw [Array.size_push, sz]; omega)
      have hS' := Heap.get?_update_self (Obj.mapSeq (·.push v)) hS rfl
      have hpin : ∀ p ∈ X.pn ++ (p0 ++ ip), p.1 ≠ C.S := fun p hp z => by
        rcases List.mem_append.mp hp with hp | hp
        · exact O.pn p hp z
        · rcases List.mem_append.mp hp with hp | hp
          · exact hip p hp z
          · exact hi p hp z
      have I' : Inv X ((C.S, _) :: (p0 ++ ip)) σ H _ := inv_pin (t' := s1.toks) hq.2 (.inr O.new) O.cells hpin (fun b u hb e => (Heap.get?_update_other _ _ (Ne.symm hb)).trans e) hS' (fun v z => by cases z)
      obtain ⟨n', hn', hgs'⟩ := kap _ _ m' hm' ⟨by rw [hCS]; exact ⟨acc.push v, _, by rw [Array.toList_push]; exact rv.append (.cons rx .nil), rfl⟩, I'⟩ rfl hw
      exact ih n' hn' _ I'.nolimit (K.gen_at (C := C) ⟨by rw [hCS]; exact ⟨acc.push v, _, by rw [Array.toList_push]; exact rv.append (.cons rx .nil), rfl⟩, I'⟩) hgs'
    · have hcs := hq.1
      rw [hCS] at hcs
      obtain ⟨acc, c, rv, rfl⟩ := hcs
      exact wpAny_pure (hR acc c ys σ H s1 (hD ys H hd) rv hq)
def isum : List V → Int
  | [] => 0
  | .int i :: r => i + isum r
  | _ :: r => isum r
theorem isum_app (a b : List V) : isum (a ++ b) = isum a + isum b := by
  induction a with
  | nil => simp [isum]
  | cons v r ih => cases v <;> simp [isum, ih, Int.add_assoc]
abbrev sumObj (i : Int) (t : Tok) (c : Nat) : Obj := { cls := .type "list", dict := none, data := .seq #[.int i t] c, slots := #[] }
theorem sum_loop {R : Result → Shared → Prop} {Fin : List V → Hp → Prop} (K : Cons X C p0 B0 A a gn) (O : Own X C p0) (hip : ∀ p ∈ p0, p.1 ≠ C.S)
    (hCS : C.CS = fun ys o => ∃ t c, o = sumObj (isum ys) t c)
    (hU : ∀ i m ys x H, C.U i m ys x H → (∃ i, x = .int i) ∧ ∃ m', m' < m ∧ C.W (i + 1) m' (ys ++ [x]) H) (hD : ∀ ys H, C.Dn ys H → Fin ys H)
    (hR : ∀ t o ys σ H s', Fin ys H → GQ X C p0 o ys σ H s' → R (.ok (.ret (.int (isum ys) t))) s') :
    ∀ (n : Nat) (s : Shared) (st : Int) (ys : List V) (o : Obj), (st = 0 ∨ st = 2) → s.heap.NoLimit → s.heap.IsGen a gn → s.heap.get? C.S = some o → C.CS ys o → GSt X C p0 B0.in1 gn n s →
      codeAny (model X.prog X.w) A (.builtin "sum.loop" ⟨[.ref a, .ref C.S, rawInt st, rawInt 0], []⟩) R s := by
  intro n
  induction n using Nat.strongRecOn with
  | ind n ih =>
    intro s st ys0 o0 hst hl hga hS0 hc0 hgs
    rw [hCS] at hc0
    obtain ⟨tA, c0, rfl⟩ := hc0
    refine codeAny_builtin F.entry_sum_loop ?_
    rw [Around.under_plainId F.plain_sum_loop _]
    show wpAny _ A.in1 (seqItems? (.ref C.S) >>= _) _ _ s
    refine wpAny_bind (wpAny_seqItems hS0 rfl ?_)
    show wpAny _ A.in1 (tryCatch (pyNext (.ref a)) _ >>= _) _ _ s
    refine wpAny_bind (wpAny_tryCatch (K.down (next_gq K.hh K.room hl hga hgs (fun o i m ys x v ip σ H s1 h0 hi rx hq hu kap => ?_) fun o ys σ H s1 h0 hd hq => ?_)))
    · obtain ⟨⟨j, rfl⟩, m', hm', hw⟩ := hU i m ys x H hu
      obtain ⟨t, rfl⟩ := rx
      rw [hS0] at h0
      cases h0
      have hcs := hq.1
      rw [hCS] at hcs
      obtain ⟨t1, c1, e1⟩ := hcs
      have hS := hq.at
      rw [e1] at hq hS
      have e2 : isum ys0 = isum ys := by
        have := congrArg Obj.data e1
        simp only [Data.seq.injEq] at this
        have h3 := this.1
        simp at h3
        exact h3.1
      rw [e2]
      have hpin : ∀ p ∈ X.pn ++ (p0 ++ ip), p.1 ≠ C.S := fun p hp z => by
        rcases List.mem_append.mp hp with hp | hp
        · exact O.pn p hp z
        · rcases List.mem_append.mp hp with hp | hp
          · exact hip p hp z
          · exact hi p hp z
      have val : isum (ys ++ [V.int j]) = isum ys + j := by rw [isum_app]; simp [isum]
      have go : ∀ (h2 : Heap) (tk : Nat) (t2 : Tok) (c2 : Nat) (st' : Int), (st' = 0 ∨ st' = 2) → (∀ b u, b ≠ C.S → s1.heap.get? b = some u → h2.get? b = some u) → h2.get? C.S = some (sumObj (isum ys + j) t2 c2) →
          codeAny (model X.prog X.w) A (.builtin "sum.loop" ⟨[.ref a, .ref C.S, rawInt st', rawInt 0], []⟩) R { s1 with heap := h2, toks := tk } := fun h2 tk t2 c2 st' hst' hk hS2 => by
        have I' : Inv X ((C.S, sumObj (isum ys + j) t2 c2) :: (p0 ++ ip)) σ H { s1 with heap := h2, toks := tk } := inv_pin (t' := tk) hq.2 (.inr O.new) O.cells hpin hk hS2 (fun v z => by cases z)
        have cs' : C.CS (ys ++ [V.int j]) (sumObj (isum ys + j) t2 c2) := by rw [hCS]; exact ⟨t2, c2, by rw [val]⟩
        obtain ⟨n', hn', hgs'⟩ := kap _ _ m' hm' ⟨cs', I'⟩ rfl hw
        exact ih n' hn' _ st' _ _ hst' I'.nolimit (K.gen_at (C := C) ⟨cs', I'⟩) hS2 cs' hgs'
      have upd1 : ∀ (f : Array Value → Array Value) b u, b ≠ C.S → s1.heap.get? b = some u → (s1.heap.update C.S (Obj.mapSeq f)).get? b = some u := fun f b u hb e => (Heap.get?_update_other _ _ (Ne.symm hb)).trans e
      rcases hst with rfl | rfl
      · show wpAny _ A.in1 (if (_ : Bool) = true then (mkInt (isum ys + j) >>= _) else _) _ _ _
        split
        · refine wpAny_bind (wpAny_mkInt ?_)
          show wpAny _ A.in1 (updateSeq C.S (fun _ => #[.int (isum ys + j) s1.toks]) >>= _) _ _ _
          refine wpAny_bind ?_
          refine wpAny_updateSeq hS rfl (wpAny_pure ⟨plainId_quiet F.plain_sum_loop _, go _ _ _ _ 0 (.inl rfl) (upd1 _) (Heap.get?_update_self _ hS rfl)⟩)
        · refine wpAny_bind (wpAny_rule ?_)
          refine wpAny_bind (wpAny_attempt (wpAny_holding (PySem.P.add_int ?_)))
          show wpAny _ A.in1 (updateSeq C.S (fun _ => #[.int (isum ys + j) s1.toks]) >>= _) _ _ _
          refine wpAny_bind (wpAny_updateSeq hS rfl ?_)
          have hS2 := Heap.get?_update_self (Obj.mapSeq fun _ => #[Value.int (isum ys + j) s1.toks]) hS rfl
          refine wpAny_bind (wpAny_letGo ?_)
          refine wpAny_bind (wpAny_updateSeq hS2 rfl (wpAny_pure ⟨plainId_quiet F.plain_sum_loop _, go _ _ _ _ 2 (.inr rfl) (fun b u hb e => (Heap.get?_update_other _ _ (Ne.symm hb)).trans (upd1 _ b u hb e)) (Heap.get?_update_self _ hS2 rfl)⟩))
      · show wpAny _ A.in1 ((holding [Value.int j t] (binaryOp .Add (.int (isum ys) tA) (.int j t))).attempt >>= _) _ _ _
        refine wpAny_bind (wpAny_attempt (wpAny_holding (PySem.P.add_int ?_)))
        show wpAny _ A.in1 (updateSeq C.S (fun _ => #[.int (isum ys + j) s1.toks]) >>= _) _ _ _
        refine wpAny_bind (wpAny_updateSeq hS rfl ?_)
        have hS2 := Heap.get?_update_self (Obj.mapSeq fun _ => #[Value.int (isum ys + j) s1.toks]) hS rfl
        refine wpAny_bind (wpAny_letGo ?_)
        refine wpAny_bind (wpAny_updateSeq hS2 rfl (wpAny_pure ⟨plainId_quiet F.plain_sum_loop _, go _ _ _ _ 2 (.inr rfl) (fun b u hb e => (Heap.get?_update_other _ _ (Ne.symm hb)).trans (upd1 _ b u hb e)) (Heap.get?_update_self _ hS2 rfl)⟩))
    · rw [hS0] at h0
      cases h0
      have hcs := hq.1
      rw [hCS] at hcs
      obtain ⟨t1, c1, e1⟩ := hcs
      have e2 : isum ys0 = isum ys := by
        have := congrArg Obj.data e1
        simp only [Data.seq.injEq] at this
        have h3 := this.1
        simp at h3
        exact h3.1
      have := hR tA _ ys σ H s1 (hD ys H hd) hq
      rw [← e2] at this
      exact wpAny_pure this
end
end Gq
set_option Elab.async false
set_option linter.all false
set_option maxRecDepth 100000
set_option maxHeartbeats 4000000
namespace Gq
open PySem PySem.Spec PyProof.Rows L2 GenW
def CodeOb (c : Addr) (o : Obj) (P : Addr) : Prop := ∀ h : Heap, h.get? c = some o → PySem.W.CodeHd h c P
abbrev CodT (o : Obj) : HO := .frz o (.own 0)
theorem codeOb_of {h : Heap} {c P : Addr} (x : PySem.W.CodeHd h c P) : ∃ o, h.get? c = some o ∧ CodeOb c o P := by
  obtain ⟨o, vs, file, tf, flags, tg, inF, text, tt, e, r⟩ := x
  exact ⟨o, e, fun h' e' => ⟨o, vs, file, tf, flags, tg, inF, text, tt, e', r⟩⟩
inductive TabR (H : Hp) : Addr → Prop
  | mk {P : Addr} (ps : Array Value) (cf pf : Pos → Value → Addr) (of : Pos → Value → Obj) (h : H P = some (.tbl ps)) (ok : TriplesOk ps.toList)
      (g1 : ∀ pos cv, codeAmong pos ps.toList = some cv → cv = .ref (cf pos cv) ∧ H (cf pos cv) = some (CodT (of pos cv)) ∧ CodeOb (cf pos cv) (of pos cv) (pf pos cv))
      (g2 : ∀ pos cv, codeAmong pos ps.toList = some cv → TabR H (pf pos cv)) : TabR H P
section
variable {H H' : Hp} {P Q : Addr} {ps : Array Value}
theorem TabR.intro (h : H P = some (.tbl ps)) (ok : TriplesOk ps.toList) (g : ∀ pos cv, codeAmong pos ps.toList = some cv → ∃ c o Pn, cv = .ref c ∧ H c = some (CodT o) ∧ CodeOb c o Pn ∧ TabR H Pn) : TabR H P := by
  classical
  have hc : ∀ pos cv, ∃ q : Addr × Obj × Addr, codeAmong pos ps.toList = some cv → cv = .ref q.1 ∧ H q.1 = some (CodT q.2.1) ∧ CodeOb q.1 q.2.1 q.2.2 ∧ TabR H q.2.2 := fun pos cv => by
    by_cases e : codeAmong pos ps.toList = some cv
    · obtain ⟨c, o, Pn, r⟩ := g pos cv e
      exact ⟨(c, o, Pn), fun _ => r⟩
    · exact ⟨(0, { cls := .none, data := .plain }, 0), fun z => absurd z e⟩
  exact .mk ps (fun pos cv => (Classical.choose (hc pos cv)).1) (fun pos cv => (Classical.choose (hc pos cv)).2.2) (fun pos cv => (Classical.choose (hc pos cv)).2.1) h ok
    (fun pos cv e => ⟨(Classical.choose_spec (hc pos cv) e).1, (Classical.choose_spec (hc pos cv) e).2.1, (Classical.choose_spec (hc pos cv) e).2.2.1⟩) (fun pos cv e => (Classical.choose_spec (hc pos cv) e).2.2.2)
theorem TabR.ex (x : TabR H P) : ∃ ps, H P = some (.tbl ps) ∧ TriplesOk ps.toList ∧ ∀ pos cv, codeAmong pos ps.toList = some cv → ∃ c o Pn, cv = .ref c ∧ H c = some (CodT o) ∧ CodeOb c o Pn ∧ TabR H Pn := by
  cases x with
  | mk ps cf pf of h ok g1 g2 => exact ⟨ps, h, ok, fun pos cv e => ⟨_, _, _, (g1 pos cv e).1, (g1 pos cv e).2.1, (g1 pos cv e).2.2, g2 pos cv e⟩⟩
theorem TabR.g (x : TabR H P) : GxR.TabG H P := let ⟨ps, h, ok, _⟩ := x.ex; ⟨ps, h, ok⟩
theorem tabR_nil (h : H P = some (.tbl #[])) : TabR H P := .intro h trivial fun pos cv e => by
  have e : (none : Option Value) = some cv := e
  cases e
theorem TabR.keep (x : TabR H P) (k1 : ∀ b qs, H b = some (.tbl qs) → H' b = some (.tbl qs)) (k2 : ∀ b o u, H b = some (.frz o u) → H' b = some (.frz o u)) : TabR H' P := by
  induction x with
  | mk ps cf pf of h ok g1 g2 ih => exact .mk ps cf pf of (k1 _ _ h) ok (fun pos cv e => ⟨(g1 pos cv e).1, k2 _ _ _ (g1 pos cv e).2.1, (g1 pos cv e).2.2⟩) ih
theorem TabR.ext (x : TabR H P) (k : ∀ b o, H b = some o → H' b = some o) : TabR H' P := x.keep (fun b _ e => k b _ e) fun b _ _ e => k b _ e
theorem among_snoc {pos pos0 : Pos} {c cv : Value} (l : List Value) (h : TriplesOk l) (e : codeAmong pos (l ++ [rawInt pos0.line, rawInt pos0.col, c]) = some cv) : codeAmong pos l = some cv ∨ cv = c := by
  fun_induction TriplesOk l with
  | case1 =>
    simp only [List.nil_append, codeAmong, rawInt] at e
    split at e
    · exact .inr (Option.some.inj e).symm
    · cases e
  | case2 a t b u x rest ih =>
    simp only [List.cons_append, codeAmong] at e ⊢
    split
    · rename_i q
      rw [if_pos q] at e
      exact .inl e
    · rename_i q
      rw [if_neg q] at e
      exact ih h e
  | case3 l h1 h2 => exact h.elim
theorem among_app {pos : Pos} {cv : Value} (l m : List Value) (h : TriplesOk l) (e : codeAmong pos l = some cv) : codeAmong pos (l ++ m) = some cv := by
  fun_induction TriplesOk l with
  | case1 => cases e
  | case2 a t b u x rest ih =>
    simp only [List.cons_append, codeAmong] at e ⊢
    split
    · rename_i q
      rw [if_pos q] at e
      exact e
    · rename_i q
      rw [if_neg q] at e
      exact ih h e
  | case3 l h1 h2 => exact h.elim
structure TbR (H H' : Hp) : Prop where
  tab : ∀ Q, TabR H Q → TabR H' Q
  keep : ∀ b o, H b = some o → (∀ qs, o ≠ .tbl qs) → H' b = some o
  grow : ∀ b qs, H b = some (.tbl qs) → ∃ more, H' b = some (.tbl (qs ++ more))
theorem TbR.refl : TbR H H := ⟨fun _ x => x, fun _ _ e _ => e, fun b qs e => ⟨#[], by simpa using e⟩⟩
theorem TbR.dom (x : TbR H H') {b : Addr} (e : H' b = none) : H b = none := by
  cases q : H b with
  | none => rfl
  | some o =>
    by_cases z : ∃ qs, o = .tbl qs
    · obtain ⟨qs, rfl⟩ := z
      obtain ⟨more, e'⟩ := x.grow b qs q
      rw [e] at e'; cases e'
    · have := x.keep b o q fun qs w => z ⟨qs, w⟩
      rw [e] at this; cases this
def mkH (H : Hp) (P c Pn : Addr) (ps : Array Value) (pos0 : Pos) (o : Obj) : Hp := upd (upd (upd H P (.tbl (ps ++ #[rawInt pos0.line, rawInt pos0.col, .ref c]))) c (CodT o)) Pn (.tbl #[])
section
variable {pos0 : Pos} {c Pn : Addr} {o : Obj}
theorem mkH_N : mkH H P c Pn ps pos0 o Pn = some (.tbl #[]) := upd_same
theorem mkH_C (ncP : c ≠ Pn) : mkH H P c Pn ps pos0 o c = some (CodT o) := by unfold mkH; rw [upd_ne ncP, upd_same]
theorem mkH_P (hP : H P = some (.tbl ps)) (nc : H c = none) (nP : H Pn = none) : mkH H P c Pn ps pos0 o P = some (.tbl (ps ++ #[rawInt pos0.line, rawInt pos0.col, .ref c])) := by
  unfold mkH
  rw [upd_ne (ne_of_none hP nP), upd_ne (ne_of_none hP nc), upd_same]
theorem mkH_o {b : Addr} (hb : b ≠ P) (h1 : b ≠ c) (h2 : b ≠ Pn) : mkH H P c Pn ps pos0 o b = H b := by
  unfold mkH
  rw [upd_ne h2, upd_ne h1, upd_ne hb]
theorem mkH_k {b : Addr} {u : HO} (nc : H c = none) (nP : H Pn = none) (e : H b = some u) (hb : b ≠ P) : mkH H P c Pn ps pos0 o b = some u := by
  rw [mkH_o hb (ne_of_none e nc) (ne_of_none e nP)]
  exact e
theorem mk_grow (hP : H P = some (.tbl ps)) (ok : TriplesOk ps.toList) (nc : H c = none) (nP : H Pn = none) (ncP : c ≠ Pn) (ho : CodeOb c o Pn) : TbR H (mkH H P c Pn ps pos0 o) := by
  refine ⟨fun Q x => ?_, fun b u e n => mkH_k nc nP e fun z => ?_, fun b qs e => ?_⟩
  · induction x with
    | @mk Q qs cf pf of h okq g1 g2 ih =>
      have cod : ∀ pos cv, codeAmong pos qs.toList = some cv → ∃ c' o' Pn', cv = .ref c' ∧ mkH H P c Pn ps pos0 o c' = some (CodT o') ∧ CodeOb c' o' Pn' ∧ TabR (mkH H P c Pn ps pos0 o) Pn' := fun pos cv e => by
        obtain ⟨e1, e2, e3⟩ := g1 pos cv e
        refine ⟨_, _, _, e1, mkH_k nc nP e2 fun z => ?_, e3, ih pos cv e⟩
        rw [z, hP] at e2
        cases e2
      by_cases hq : Q = P
      · subst hq
        rw [hP] at h
        cases h
        refine .intro (mkH_P hP nc nP) ?_ fun pos cv e => ?_
        · rw [show (ps ++ #[rawInt pos0.line, rawInt pos0.col, Value.ref c]).toList = ps.toList ++ [rawInt pos0.line, rawInt pos0.col, .ref c] by simp]
          exact TriplesOk_snoc _ _ _ _ ok
        · rw [show (ps ++ #[rawInt pos0.line, rawInt pos0.col, Value.ref c]).toList = ps.toList ++ [rawInt pos0.line, rawInt pos0.col, .ref c] by simp] at e
          rcases among_snoc _ ok e with z | z
          · exact cod pos cv z
          · exact ⟨c, o, Pn, z, mkH_C ncP, ho, tabR_nil mkH_N⟩
      · exact .intro (mkH_k nc nP h hq) okq cod
  · rw [z, hP] at e
    cases e
    exact n ps rfl
  · by_cases hb : b = P
    · rw [hb, hP] at e
      cases e
      rw [hb]
      exact ⟨_, mkH_P hP nc nP⟩
    · exact ⟨#[], by rw [mkH_k nc nP e hb]; simp⟩
end
end
end Gq
set_option Elab.async false
set_option linter.all false
set_option maxRecDepth 100000
set_option maxHeartbeats 4000000
namespace Gq
open PySem PySem.Spec PyProof.Rows L2 GenW
def isCeB (k : Option NameKind) : Bool := match k with
  | some .cell => true
  | _ => false
theorem isCeB_iff {k : Option NameKind} : isCeB k = true ↔ k = some .cell := by
  cases k with
  | none => simp [isCeB]
  | some k => cases k <;> simp [isCeB]
def gcx (X : Cx) (B : Around) (N' : List Str) (cenv : Env) (s0 : Shared) (H0 : Hp) (fp : List Addr) : Cx :=
  { prog := X.prog, w := X.w, K := X.K, mg := X.mg, base := X.base, A := B.deeper cenv, N := N', s_0 := s0, H_0 := H0, env := cenv, outer := X.stack, stack := cenv :: X.stack, ex := fp, fn := fun x => isCeB (cenv.scope.names.lookup x), calm := true, pn := [], xe := fun _ _ => False }
structure GScp (X : Cx) (scope : Scope) (N' : List Str) : Prop where
  kind : scope.kind = .function
  co : scope.isCoroutine = false
  uni : (scope.names.map (·.1)).Nodup
  dot : scope.names.lookup (".0" : Str) = some NameKind.local
  free : ∀ y ∈ scope.names, y.2 = .free → X.env.scope.names.lookup y.1 = some .cell ∨ X.env.scope.names.lookup y.1 = some .free
  len : X.N.length ≤ N'.length
  vis : ∀ i x, i < X.N.length → N'[i]? = some x → Vis scope x → X.N[i]? = some x ∧ scope.names.lookup x = some .free
  nd : N'.Nodup
theorem cells_app : ∀ (names : List (Str × NameKind)) (n : Nat) (acc : List (Str × Addr)), cellsFrom n names acc = cellsFrom n names [] ++ acc
  | [], _, _ => rfl
  | (x, k) :: r, n, acc => by
    by_cases hk : (k == NameKind.cell) = true
    · rw [show cellsFrom n ((x, k) :: r) acc = cellsFrom (n + 1) r ((x, n) :: acc) from if_pos hk, show cellsFrom n ((x, k) :: r) [] = cellsFrom (n + 1) r [(x, n)] from if_pos hk, cells_app r (n + 1) ((x, n) :: acc), cells_app r (n + 1) [(x, n)], List.append_assoc]; rfl
    · rw [show cellsFrom n ((x, k) :: r) acc = cellsFrom n r acc from if_neg hk, show cellsFrom n ((x, k) :: r) [] = cellsFrom n r [] from if_neg hk, cells_app r n acc]
theorem cells_mem : ∀ {names : List (Str × NameKind)} {n : Nat} {x : Str} {c : Addr}, (x, c) ∈ cellsFrom n names [] → (x, NameKind.cell) ∈ names ∧ n ≤ c
  | [], _, _, _, h => by cases h
  | (y, k) :: r, n, x, c, h => by
    by_cases hk : (k == NameKind.cell) = true
    · rw [show cellsFrom n ((y, k) :: r) [] = cellsFrom (n + 1) r [(y, n)] from if_pos hk, cells_app r (n + 1) [(y, n)]] at h
      rcases List.mem_append.mp h with z | z
      · obtain ⟨h1, h2⟩ := cells_mem z
        exact ⟨List.mem_cons_of_mem _ h1, Nat.le_of_succ_le h2⟩
      · have z := List.mem_singleton.mp z
        cases z
        rw [show k = NameKind.cell by simpa using hk]
        exact ⟨List.mem_cons_self, Nat.le_refl _⟩
    · rw [show cellsFrom n ((y, k) :: r) [] = cellsFrom n r [] from if_neg hk] at h
      obtain ⟨h1, h2⟩ := cells_mem h
      exact ⟨List.mem_cons_of_mem _ h1, h2⟩
theorem cells_has : ∀ {names : List (Str × NameKind)} {n : Nat} {x : Str}, (x, NameKind.cell) ∈ names → ∃ c, (x, c) ∈ cellsFrom n names []
  | (y, k) :: r, n, x, h => by
    by_cases hk : (k == NameKind.cell) = true
    · rw [show cellsFrom n ((y, k) :: r) [] = cellsFrom (n + 1) r [(y, n)] from if_pos hk, cells_app r (n + 1) [(y, n)]]
      rcases List.mem_cons.mp h with e | z
      · cases e; exact ⟨n, List.mem_append_right _ List.mem_cons_self⟩
      · obtain ⟨c, hc⟩ := cells_has (n := n + 1) z
        exact ⟨c, List.mem_append_left _ hc⟩
    · rw [show cellsFrom n ((y, k) :: r) [] = cellsFrom n r [] from if_neg hk]
      rcases List.mem_cons.mp h with e | z
      · cases e; exact absurd (by simp) hk
      · exact cells_has z
theorem cells_apart : ∀ (names : List (Str × NameKind)) (n : Nat), (cellsFrom n names []).Pairwise fun x y => x.2 ≠ y.2
  | [], _ => .nil
  | (y, k) :: r, n => by
    by_cases hk : (k == NameKind.cell) = true
    · rw [show cellsFrom n ((y, k) :: r) [] = cellsFrom (n + 1) r [(y, n)] from if_pos hk, cells_app r (n + 1) [(y, n)]]
      refine List.pairwise_append.mpr ⟨cells_apart r (n + 1), List.pairwise_singleton _ _, fun a ha b hb => ?_⟩
      rw [List.mem_singleton.mp hb]
      have := (cells_mem (x := a.1) (c := a.2) ha).2
      exact Nat.ne_of_gt this
    · rw [show cellsFrom n ((y, k) :: r) [] = cellsFrom n r [] from if_neg hk]
      exact cells_apart r n
theorem uni_eq {β : Type} : ∀ {l : List (Str × β)} {x : Str} {a b : β}, (l.map (·.1)).Nodup → (x, a) ∈ l → (x, b) ∈ l → a = b
  | y :: l, x, a, b, nd, h1, h2 => by
    obtain ⟨n1, n2⟩ := List.nodup_cons.mp nd
    rcases List.mem_cons.mp h1 with e | z
    · rcases List.mem_cons.mp h2 with e2 | z2
      · rw [← e] at e2; exact (Prod.mk.inj e2).2.symm
      · subst e; exact absurd (List.mem_map.mpr ⟨_, z2, rfl⟩) n1
    · rcases List.mem_cons.mp h2 with e2 | z2
      · subst e2; exact absurd (List.mem_map.mpr ⟨_, z, rfl⟩) n1
      · exact uni_eq n2 z z2
theorem ce_cases {names : List (Str × NameKind)} {n : Nat} {acc : List (Str × Addr)} {x : Str} {c : Addr} (h : (cellsFrom n names acc).lookup x = some c) : ((x, c) ∈ cellsFrom n names [] ∧ (x, NameKind.cell) ∈ names ∧ n ≤ c) ∨ acc.lookup x = some c := by
  rw [cells_app, List.lookup_append] at h
  cases e : (cellsFrom n names []).lookup x with
  | none => rw [e] at h; exact .inr h
  | some d =>
    rw [e] at h
    have hd : d = c := Option.some.inj h
    subst hd
    have hm := PySem.mem_of_lookup e
    exact .inl ⟨hm, cells_mem hm⟩
theorem ce_own {names : List (Str × NameKind)} {n : Nat} {acc : List (Str × Addr)} {x : Str} (h : (x, NameKind.cell) ∈ names) : ∃ c, (cellsFrom n names acc).lookup x = some c := by
  obtain ⟨c, hc⟩ := cells_has (n := n) h
  obtain ⟨d, hd⟩ := mem_lookup hc
  exact ⟨d, by rw [cells_app, List.lookup_append, hd]; rfl⟩
theorem ce_free {names : List (Str × NameKind)} {n : Nat} {acc : List (Str × Addr)} {x : Str} (nd : (names.map (·.1)).Nodup) (h : names.lookup x = some .free) : (cellsFrom n names acc).lookup x = acc.lookup x := by
  rw [cells_app, List.lookup_append]
  cases e : (cellsFrom n names []).lookup x with
  | none => rfl
  | some d =>
    have := uni_eq nd (PySem.mem_of_lookup h) (cells_mem (PySem.mem_of_lookup e)).1
    cases this
def σG (X : Cx) (N' : List Str) (σ : Slots) : Slots := σ ++ List.replicate (N'.length - X.N.length) none
section
variable {X : Cx} {pins : List (Addr × Obj)} {σ : Slots} {H H' : Hp} {s s4 s5 : Shared} {B : Around} {N' : List Str} {scope : Scope} {fp : List Addr} {code : Value}
theorem clo_look (S : GScp X scope N') (ok : X.Ok) {x : Str} (hx : scope.names.lookup x = some .free) : ∃ c, X.env.cells.lookup x = some c ∧ (cloFrom X.env.cells scope.names []).lookup x = some c := by
  have hm := PySem.mem_of_lookup hx
  obtain ⟨c, hc⟩ := ok.has x (S.free _ hm rfl)
  refine ⟨c, hc, ?_⟩
  obtain ⟨c', h1⟩ := mem_lookup (cloFrom_has (cells := X.env.cells) (acc := []) hm)
  rcases cloFrom_mem (PySem.mem_of_lookup h1) with z | ⟨_, z⟩
  · cases z
  · rw [hc] at z
    rw [h1, z]; rfl
theorem clo_from (S : GScp X scope N') (ok : X.Ok) {x : Str} {c : Addr} (h : (cloFrom X.env.cells scope.names []).lookup x = some c) : X.env.cells.lookup x = some c := by
  rcases cloFrom_mem (PySem.mem_of_lookup h) with z | ⟨hm, z⟩
  · cases z
  · obtain ⟨c', hc⟩ := ok.has x (S.free _ hm rfl)
    rw [hc] at z
    rw [hc, z]; rfl
theorem inv_gen {C : Addr} {p0 : List (Addr × Obj)} {m : Str → Option Value} (hB : B.frames = X.A.frames) (hh : B.handled = none) (S : GScp X scope N') (I : Inv X pins σ H s4) (hf : ∀ b ∈ fp, FpOk X pins H b) (hfo : ∀ b ∈ fp, b < s4.heap.objs.size)
    (hC : C = s4.heap.objs.size) (hk : ∀ b o, s4.heap.get? b = some o → s5.heap.get? b = some o) (hos : s5.os = s4.os) (hg : AllBare s5.gens) (hns : s5.heap.Ns C m) (hce : ∀ x c, (x, c) ∈ cellsFrom (C + 1) scope.names [] → ∃ v, s5.heap.IsCell c v)
    (hp0 : ∀ p ∈ p0, s5.heap.get? p.1 = some p.2 ∧ H p.1 = none ∧ p.1 ≠ C ∧ p.1 ∉ frs X.stack ∧ ∀ v, p.2.data ≠ .cell v) :
    Inv (gcx X B N' (genEnv scope (cellsFrom (C + 1) scope.names (cloFrom X.env.cells scope.names [])) C code builtinsNs X.env) s4 H fp) p0 (σG X N' σ) H s5 := by
  subst hC
  have hσ : σ.length = X.N.length := I.len
  have ltS : ∀ b, b ∈ frs X.stack → ∃ o, s4.heap.get? b = some o := fun b hb => by
    obtain ⟨_, o, ho, _⟩ := I.stack.mem hb
    exact ⟨o, ho⟩
  have oldC : ∀ x c, (cloFrom X.env.cells scope.names []).lookup x = some c → c < s4.heap.objs.size := fun x c h => by
    obtain ⟨v, o, ho, _⟩ := I.cell x c (clo_from S I.ok h)
    exact Heap.lt_size ho
  refine ⟨⟨I.ok.mod, S.kind, I.ok.glob, rfl, Nat.le_refl _, fun x y c h1 h2 => ?_, fun x hx => ?_, fun x c h hc => ?_, fun _ => hh, ?_, .inr ⟨rfl, rfl⟩, fun b hb => ⟨Nat.ne_of_lt (hfo b hb), fun x c h => ?_⟩,
    fun b o e => I.bs b o e, Nat.le_trans I.ok.bsz I.sz, fun b o e hb => ?_, fun b hb hs => ?_, I.stack, fun b hb => I.stkFree b hb⟩,
    hos, hg, Un.kept hk, ⟨m, hns, fun i x v h1 h2 h3 => ?_⟩, fun x c h => ?_, I.hok.fresh (Nat.le_refl _), fun x c h => ?_, fun p hp => hp0 p hp, I.hok.kept hk, ?_⟩
  · rcases ce_cases h1 with ⟨a1, a2, a3⟩ | a1
    · rcases ce_cases h2 with ⟨b1, b2, b3⟩ | b1
      · exact name_of_addr (cells_apart _ _) a1 b1
      · have := oldC y c b1; exact absurd (Nat.lt_of_lt_of_le this (Nat.le_of_succ_le a3)) (Nat.lt_irrefl _)
    · rcases ce_cases h2 with ⟨b1, b2, b3⟩ | b1
      · have := oldC x c a1; exact absurd (Nat.lt_of_lt_of_le this (Nat.le_of_succ_le b3)) (Nat.lt_irrefl _)
      · exact I.ok.inj x y c (clo_from S I.ok a1) (clo_from S I.ok b1)
  · rcases hx with hx | hx
    · exact ce_own (PySem.mem_of_lookup (show scope.names.lookup x = some .cell from hx))
    · obtain ⟨c, _, h⟩ := clo_look S I.ok (show scope.names.lookup x = some .free from hx)
      exact ⟨c, (ce_free S.uni (show scope.names.lookup x = some .free from hx)).trans h⟩
  · have hx : scope.names.lookup x = some .cell := isCeB_iff.mp h
    rcases ce_cases hc with ⟨_, _, a3⟩ | a1
    · exact Nat.le_of_succ_le a3
    · exfalso
      rcases cloFrom_mem (PySem.mem_of_lookup a1) with z | ⟨z, _⟩
      · cases z
      · have := uni_eq S.uni (PySem.mem_of_lookup hx) z
        cases this
  · show (B.deeper _).frames = _
    exact Around.frames_deeper (by rw [hB]; exact I.ok.frames)
  · rcases ce_cases h with ⟨_, _, a3⟩ | a1
    · exact Nat.ne_of_gt (Nat.lt_of_lt_of_le (hfo b hb) (Nat.le_of_succ_le a3))
    · exact (hf b hb).2.2.2.2.1 x c (clo_from S I.ok a1)
  · rcases (hf b hb).2.2.2.1 with z | z
    · exact I.ok.noex b o e z
    · exact absurd (Nat.lt_of_lt_of_le (Heap.lt_size (I.ok.bs b o e).1) z) (Nat.lt_irrefl _)
  · rcases List.mem_cons.mp (I.stkSub b hs) with z | z
    · exact (hf b hb).2.1 z
    · exact (hf b hb).2.2.1 z
  · have hi : i < X.N.length := by
      rcases Nat.lt_or_ge i X.N.length with z | z
      · exact z
      · unfold σG at h2
        rw [List.getElem?_append_right (by omega), List.getElem?_replicate] at h2
        split at h2 <;> cases h2
    have h2' : σ[i]? = some (some v) := by
      unfold σG at h2
      rwa [List.getElem?_append_left (by omega)] at h2
    obtain ⟨hN, hfr⟩ := S.vis i x hi h1 h3
    obtain ⟨mo, hno, hl⟩ := I.loc
    have hv : Vis X.env.scope x := by
      rcases S.free _ (PySem.mem_of_lookup hfr) rfl with z | z
      · exact .inr (.inl z)
      · exact .inr (.inr z)
    obtain ⟨u, r, l⟩ := hl i x v hN h2' hv
    refine ⟨u, r, .inr ⟨.inr hfr, ?_⟩⟩
    obtain ⟨c, hc, hcl⟩ := clo_look S I.ok hfr
    rcases l with ⟨k, _⟩ | ⟨_, c', hc', z⟩
    · exfalso
      rcases S.free _ (PySem.mem_of_lookup hfr) rfl with q | q
      · rw [show X.env.kindOf x = X.env.scope.names.lookup x from rfl, q] at k; cases k
      · rw [show X.env.kindOf x = X.env.scope.names.lookup x from rfl, q] at k; cases k
    · rw [hc] at hc'; cases hc'
      obtain ⟨o, ho, hd⟩ := z
      exact ⟨c, (ce_free S.uni hfr).trans hcl, o, hk _ _ ho, hd⟩
  · rcases ce_cases h with ⟨a1, _, _⟩ | a1
    · exact hce x c a1
    · obtain ⟨v, o, ho, hd⟩ := I.cell x c (clo_from S I.ok a1)
      exact ⟨v, o, hk _ _ ho, hd⟩
  · rcases ce_cases h with ⟨_, _, a3⟩ | a1
    · exact I.hok.fresh (Nat.le_of_succ_le a3)
    · exact I.freeC x c (clo_from S I.ok a1)
  · show (σG X N' σ).length = N'.length
    unfold σG
    rw [List.length_append, List.length_replicate, hσ]
    have := S.len
    omega
theorem newEnvC {M : Model} {A : Around} {E : Value → Shared → Prop} {ss : Shared} {globals bi : Addr} {cl : List (Str × Addr)} {itv code : Value} {qual : Str} {Q : Env → Shared → Prop} (kd : scope.kind = .function) (h0 : scope.names.lookup (".0" : Str) = some NameKind.local)
    (hQ : ∀ g, g.Ns ss.heap.objs.size (fun y => if y = ".0" then some itv else none) → Heap.SameBut ss.heap.objs.size (pushCells (ss.heap.push { cls := .type "frame", data := .dict #[] }) scope.names) g →
      Q (newEnv scope ss.heap.objs.size globals (cellsFrom (ss.heap.objs.size + 1) scope.names cl) qual none code none bi) { ss with heap := g, toks := ss.toks + 1 }) : wpAny M A (newFunctionEnv scope globals cl [((".0" : Str), itv)] qual none code none bi) Q E ss := by
  simp only [newFunctionEnv, Option.isSome_none, Bool.false_eq_true, if_false]
  apply wpAny_bind; refine wpAny_alloc ?_
  apply wpAny_bind
  refine wpAny_layCells _ (fun name kind cells => by cases hkc : kind == NameKind.cell <;> simp [hkc]) scope.names cl _ _ ?_
  rw [show ({ ss with heap := ss.heap.push { cls := .type "frame", data := .dict #[] } } : Shared).heap.objs.size = ss.heap.objs.size + 1 from Heap.size_push ..]
  apply wpAny_bind
  have ns0 : (pushCells (ss.heap.push { cls := .type "frame", data := .dict #[] }) scope.names).Ns ss.heap.objs.size (fun _ => none) := (Heap.Ns.new ss.heap (.type "frame")).keeps (pushCells_keeps _ _)
  have kn : Env.kindOf { scope, locals := ss.heap.objs.size, globals, cells := cellsFrom (ss.heap.objs.size + 1) scope.names cl, qual, func := none, code, frame := some ss.heap.objs.size, builtins := bi } (".0" : Str) = some .local := h0
  rw [List.forIn_cons]
  apply wpAny_bind
  have hp : (({ scope, locals := ss.heap.objs.size, globals, cells := cellsFrom (ss.heap.objs.size + 1) scope.names cl, qual, func := none, code, frame := some ss.heap.objs.size, builtins := bi } : Env).scope.kind == .class || (({ scope, locals := ss.heap.objs.size, globals, cells := cellsFrom (ss.heap.objs.size + 1) scope.names cl, qual, func := none, code, frame := some ss.heap.objs.size, builtins := bi } : Env).scope.kind == .module && ({ scope, locals := ss.heap.objs.size, globals, cells := cellsFrom (ss.heap.objs.size + 1) scope.names cl, qual, func := none, code, frame := some ss.heap.objs.size, builtins := bi } : Env).locals != ({ scope, locals := ss.heap.objs.size, globals, cells := cellsFrom (ss.heap.objs.size + 1) scope.names cl, qual, func := none, code, frame := some ss.heap.objs.size, builtins := bi } : Env).globals)) = false := by
    show (scope.kind == .class || (scope.kind == .module && _)) = false
    rw [kd]; rfl
  simp only [storeName_local kn hp]
  apply wpAny_bind
  refine wpAny_nsSet ns0 fun g gn gs => wpAny_pure ?_
  simp only [List.forIn_nil]
  exact wpAny_pure (wpAny_pure (hQ g gn gs))
theorem gen_makeC {M : Model} {A : Around} {E : Value → Shared → Prop} {ss : Shared} {env : Env} {elt tg iter : Expr} {ifs : List Expr} {cl : List (Str × Addr)} {gp : Pos} {Q : Value → Shared → Prop}
    (co : scope.isCoroutine = false) (clo : closureFor scope env = pure cl) (h0 : scope.names.lookup (".0" : Str) = some NameKind.local) (kd : scope.kind = .function) (room : A.depth < recursionLimit)
    (h : wpAny M A (eval iter env) (fun xv s₁ => wpAny M A (pyIter xv) (fun itv s₂ => s₂.heap.NoLimit ∧
      wpAny M A (genexprCode env gp (env.qual ++ "<genexpr>") scope) (fun cd s₃ => wpAny M A (builtinsFor env.globals env.builtins) (fun bi s₄ =>
        ∀ g, g.Ns s₄.heap.objs.size (fun y => if y = ".0" then some itv else none) → Heap.SameBut s₄.heap.objs.size (pushCells (s₄.heap.push { cls := .type "frame", data := .dict #[] }) scope.names) g →
          Q (.ref g.objs.size) { s₄ with
            gens := s₄.gens.push (.fresh (.compStart (.GeneratorExp elt [⟨tg, iter, ifs, 0⟩] scope gp) 0 itv .none (genEnv scope (cellsFrom (s₄.heap.objs.size + 1) scope.names cl) s₄.heap.objs.size cd bi env))),
            toks := s₄.toks + 1 + 1 + 1,
            heap := g.push { cls := .type "generator", data := .fields #[.int s₄.gens.size 0, .str "<genexpr>" (s₄.toks + 1), .str (env.qual ++ "<genexpr>") (s₄.toks + 1 + 1)] } }) E s₃) E s₂) E s₁) E ss)
    (hs : ∀ x, genFold iter env x = pure x) : wpAny M A (eval (.GeneratorExp elt [⟨tg, iter, ifs, 0⟩] scope gp) env) Q E ss := by
  rw [eval_GeneratorExp1 _ _ _ _ _ _ _ co, clo]
  apply wpAny_bind; refine wpAny_mono h (fun xv s₁ k₁ => ?_) fun _ _ e => e
  apply wpAny_bind; refine wpAny_standAt ?_
  apply wpAny_bind; refine wpAny_of_eq (hs xv) ?_
  apply wpAny_bind; refine wpAny_holding (wpAny_mono k₁ (fun itv s₂ k₂ => ?_) fun _ _ e => e)
  apply wpAny_bind; refine wpAny_enterFrame k₂.1 room ?_
  apply wpAny_bind; refine wpAny_pure ?_
  apply wpAny_bind; refine wpAny_mono k₂.2 (fun cd s₃ k₃ => ?_) fun _ _ e => e
  apply wpAny_bind; refine wpAny_mono k₃ (fun bi s₄ k₄ => ?_) fun _ _ e => e
  apply wpAny_bind; refine newEnvC kd h0 fun g gn gs => ?_
  simp only [newGenerator, newFields]
  apply wpAny_bind; refine wpAny_newGen (wpAny_bind (wpAny_mkText (wpAny_bind (wpAny_mkText (wpAny_newObj_type ?_ (by size_fits))))))
  exact k₄ g gn gs
theorem inv_made {P c Pn : Addr} {ps : Array Value} {pos0 : Pos} {o : Obj} {h' : Heap} {t' : Nat} (I : Inv X pins σ H s) (hP : H P = some (.tbl ps)) (k : ∀ b o, b ≠ P → s.heap.get? b = some o → h'.get? b = some o)
    (hm : h'.get? P = some { cls := .none, data := .fields (ps ++ #[rawInt pos0.line, rawInt pos0.col, .ref c]) }) (hc : s.heap.objs.size ≤ c) (hN : s.heap.objs.size ≤ Pn) (ncP : c ≠ Pn) (ho : h'.get? c = some o) (hn : h'.get? Pn = some { cls := .none, data := .fields #[] }) :
    Inv X pins σ (mkH H P c Pn ps pos0 o) { s with heap := h', toks := t' } := by
  have nC : H c = none := I.hok.fresh hc
  have nN : H Pn = none := I.hok.fresh hN
  have at_ : ∀ b, b ≠ P → b ≠ c → b ≠ Pn → mkH H P c Pn ps pos0 o b = H b := fun b h1 h2 h3 => mkH_o h1 h2 h3
  have nP : ∀ b u, H b = some u → (∀ q, u ≠ .tbl q) → b ≠ P := fun b u e q z => by
    rw [z, hP] at e
    exact q ps (Option.some.inj e).symm
  have nNo : ∀ b, H b = none → b ≠ P := fun b e z => by
    rw [z, hP] at e
    cases e
  have lt' : ∀ b u, s.heap.get? b = some u → b ≠ c := fun b u e z => by
    rw [z] at e
    exact Nat.lt_irrefl _ (Nat.lt_of_lt_of_le (Heap.lt_size e) hc)
  have lt2 : ∀ b u, s.heap.get? b = some u → b ≠ Pn := fun b u e z => by
    rw [z] at e
    exact Nat.lt_irrefl _ (Nat.lt_of_lt_of_le (Heap.lt_size e) hN)
  refine I.step (g' := s.gens) (d' := s.drawn) (ch := []) (fun b hb => absurd hb (by simp)) (fun b u _ _ _ e n => k b u (nNo b n) e) (fun b u _ _ _ e n => ⟨u.slots, k b u (nNo b n) e⟩)
    (fun b u _ e n => by rw [at_ b (nNo b n) (lt' b u e) (lt2 b u e)]; exact n) (fun b u _ e => ?_) (fun b xs e => mkH_k nC nN e (nP b _ e (fun q z => by cases z))) (fun b u v e => mkH_k nC nN e (nP b _ e (fun q z => by cases z))) (fun b qs e => ?_) (fun m hn => ?_) (fun b u e => ?_) I.bare
  · by_cases hb : b = P
    · rw [hb]
      exact ⟨_, hm⟩
    · exact ⟨u, k b u hb e⟩
  · by_cases hb : b = P
    · rw [hb, hP] at e
      cases e
      rw [hb, mkH_P hP nC nN]
      exact ⟨_, rfl⟩
    · rw [mkH_k nC nN e hb]
      exact ⟨#[], by simp⟩
  · obtain ⟨ob, es, ep, ho, r⟩ := hn
    exact ⟨ob, es, ep, k _ ob (nNo _ I.free) ho, r⟩
  · by_cases hb0 : b = Pn
    · rw [hb0, mkH_N] at e
      cases e
      rw [hb0]
      exact hn
    by_cases hb : b = c
    · rw [hb, mkH_C ncP] at e
      cases e
      rw [hb]
      exact ⟨ho, ⟨o, ho⟩⟩
    · by_cases hb2 : b = P
      · rw [hb2, mkH_P hP nC nN] at e
        cases e
        rw [hb2]
        exact hm
      · rw [at_ b hb2 hb hb0] at e
        refine (I.hok b u e).stay (fun d v hd q => k d v ?_ q) (fun d q => mkH_k nC nN q (nP d _ q (fun q z => by cases z))) fun d xs q => mkH_k nC nN q (nP d _ q (fun q z => by cases z))
        rcases hd with z | z
        · rw [z]
          exact hb2
        · exact nP d _ z (fun q z => by cases z)
inductive Cdx (X : Cx) (P : Addr) : Prop
  | base {c : Addr} (hc : X.env.code = .ref c) (TB : LamX.TabB X.base X.mg c P)
  | made {c c0 P0 : Addr} {ps0 : Array Value} {gpos : Pos} (hc : X.env.code = .ref c) (TB : LamX.TabB X.base X.mg c0 P0) (h0 : X.H_0 P = some (.tbl ps0)) (ok : TriplesOk ps0.toList) (ha : codeAmong gpos ps0.toList = some (.ref c))
theorem Cdx.tb {P : Addr} (x : Cdx X P) : ∃ c0 P0, LamX.TabB X.base X.mg c0 P0 := by
  cases x with
  | base hc TB => exact ⟨_, _, TB⟩
  | made hc TB _ _ _ => exact ⟨_, _, TB⟩
theorem Cdx.find {P : Addr} (x : Cdx X P) (I : Inv X pins σ H s) (t : TabR H P) : ∃ c Pa, X.env.code = .ref c ∧ PySem.W.CodeHd s.heap c Pa ∧ TabR H Pa ∧ (LamX.TabB X.base X.mg c P → Pa = P) := by
  cases x with
  | @base c hc TB => exact ⟨_, P, hc, TB.code.keeps fun b u e => I.bk b u e, t, fun _ => rfl⟩
  | @made c c0 P0 ps0 gpos hc TB h0 ok ha =>
    obtain ⟨more, e⟩ := I.base.tbls P ps0 h0
    obtain ⟨ps, e1, ok1, g⟩ := t.ex
    rw [e] at e1
    cases e1
    obtain ⟨c', o, Pn, e2, e3, e4, t2⟩ := g gpos (.ref c) (by rw [Array.toList_append]; exact among_app _ _ ok ha)
    cases e2
    refine ⟨c, Pn, hc, e4 _ (I.hok c _ e3).1, t2, fun B => ?_⟩
    obtain ⟨o', e5, _⟩ := codeOb_of B.code
    rw [(I.bs c o' e5).2] at e3
    cases e3
def NxC (X : Cx) (P : Addr) (gpos : Pos) (code : Value) (H : Hp) : Prop := ∀ c, X.env.code = .ref c → LamX.TabB X.base X.mg c P → ∃ c' ps0, code = .ref c' ∧ H P = some (.tbl ps0) ∧ TriplesOk ps0.toList ∧ codeAmong gpos ps0.toList = some (.ref c')
theorem gen_back {cenv : Env} {p' : List (Addr × Obj)} {σ' : Slots} (I : Inv X pins σ H s4) (hf : ∀ b ∈ fp, FpOk X pins H b) (J : Inv (gcx X B N' cenv s4 H fp) p' σ' H' s5) : Inv X pins σ H' s5 := by
  have un : Un (frs X.stack) fp H H' s4.heap s5.heap := J.base
  have R := I.call (h' := s5.heap) (g' := s5.gens) (t' := s5.toks) (d' := s5.drawn) (ch := fp) un J.hok J.bare (fun b hb => by
    obtain ⟨_, h2, h3, h4, h5, h6⟩ := hf b hb
    exact ⟨h4, h2, h5, h6⟩)
  have e : ({ s4 with heap := s5.heap, gens := s5.gens, drawn := s5.drawn, toks := s5.toks } : Shared) = s5 := GxR.sh_eta s4 s5 J.os
  rw [e] at R
  exact R
def Made (X : Cx) (pins : List (Addr × Obj)) (σ : Slots) (tg elt iter : Expr) (ifs : List Expr) (scope : Scope) (gpos : Pos) (N' : List Str) (J : It) (H2 : Hp) (a : Addr) (s5 : Shared) (code : Value) : Prop :=
  ∃ (s4 : Shared) (cl : List (Str × Addr)) (C : Addr) (fp : List Addr) (it : Addr) (tn : Nat → Heap → Prop) (gn : Nat) (p0 : List (Addr × Obj)),
    Inv X pins σ H2 s4 ∧ (∀ b ∈ fp, FpOk X pins H2 b) ∧ Turn X.prog X.w X.K tg J fp it tn ∧ tn 0 s5.heap ∧
    Inv (gcx X X.A.in4.in1 N' (genEnv scope cl C code builtinsNs X.env) s4 H2 fp) p0 (σG X N' σ) H2 s5 ∧ s5.gens[gn]? = some (.fresh (.compStart (.GeneratorExp elt [⟨tg, iter, ifs, 0⟩] scope gpos) 0 (.ref it) .none (genEnv scope cl C code builtinsNs X.env))) ∧
    (∀ s' : Shared, (∀ p ∈ p0, s'.heap.get? p.1 = some p.2) → s'.heap.IsGen a gn) ∧ (∀ p ∈ p0, p.1 ∉ fp) ∧ (∀ b ∈ fp, b < s5.heap.objs.size) ∧ (∃ o, (a, o) ∈ p0)
theorem gen_made {P : Addr} {elt tg iter : Expr} {ifs : List Expr} {gpos : Pos} {wi : TI} {k : Nat} {Q' : Value → Shared → Prop} {R : It → Hp → Prop}
    (hr : Room (k + 1) X.A) (CX : Cdx X P) (S : GScp X scope N') (hi : PI X tg iter wi)
    (hs : ∀ v, genFold iter X.env v = pure v) (I : Inv X pins σ H s) (h : wi σ H fun J H1 => TabR H1 P ∧ R J H1)
    (hQ : ∀ J H1 H2 a s5 code, R J H1 → TbR H1 H2 → NxC X P gpos code H2 → Made X pins σ tg elt iter ifs scope gpos N' J H2 a s5 code → Q' (.ref a) s5) :
    wpAny (model X.prog X.w) X.A (eval (.GeneratorExp elt [⟨tg, iter, ifs, 0⟩] scope gpos) X.env) Q' X.xe s := by
  have hfree : ∀ y ∈ scope.names, y.2 = .free → ∃ c, X.env.cells.lookup y.1 = some c := fun y hy e => I.ok.has _ (S.free y hy e)
  refine gen_makeC S.co (closure_ok hfree) S.dot S.kind hr.depth ?_ hs
  refine thn (hi.run pins s σ H _ I h) fun xv s1 h1 => thn h1 fun itv s2 ⟨it, fp, tn, J, H2, hit, I2, T, st2, f2, htR, q⟩ => ?_
  subst hit
  refine ⟨I2.nolimit, ?_⟩
  obtain ⟨c, Pa, hcode, cd, tPa, hPa⟩ := CX.find I2 htR
  obtain ⟨ps, hP, ht, hg⟩ := tPa.ex
  have hPs : s2.heap.get? Pa = some { cls := .none, data := .fields ps } := I2.hok Pa _ hP
  obtain ⟨c0, P0, TB⟩ := CX.tb
  have nbase : ∀ b u, X.base.get? b = some u → b ≠ Pa := fun b u e z => by
    have := (I2.bs b u e).2
    rw [z, hP] at this
    cases this
  have gPa : mainGlobals ≠ Pa := by
    obtain ⟨o, _, _, e, _⟩ := I2.mod.glob
    exact nbase _ _ e
  have hfo : ∀ b ∈ fp, b < s2.heap.objs.size := fun b hb => by
    obtain ⟨o, e, _⟩ := T.obj _ _ st2 b hb
    exact Heap.lt_size e
  have nfP : ∀ b ∈ fp, b ≠ Pa := fun b hb z => by
    have := (f2 b hb).1
    rw [z, hP] at this; cases this
  have cont : ∀ (code : Value) (h3 : Heap) (tk : Nat) (H4 : Hp), Heap.ExtBut Pa s2.heap h3 → s2.heap.objs.size ≤ h3.objs.size → Inv X pins σ H4 { s2 with heap := h3, toks := tk } → TbR H2 H4 → (∀ b, b < s2.heap.objs.size → H2 b = none → H4 b = none) → NxC X P gpos code H4 →
      wpAny (model X.prog X.w) X.A (builtinsFor X.env.globals X.env.builtins) (fun bi s₄ =>
        ∀ h', h'.Ns s₄.heap.objs.size (fun y => if y = ".0" then some (Value.ref it) else none) → Heap.SameBut s₄.heap.objs.size (pushCells (s₄.heap.push { cls := .type "frame", data := .dict #[] }) scope.names) h' →
          Q' (.ref h'.objs.size) { s₄ with
            gens := s₄.gens.push (.fresh (.compStart (.GeneratorExp elt [⟨tg, iter, ifs, 0⟩] scope gpos) 0 (.ref it) .none (genEnv scope (cellsFrom (s₄.heap.objs.size + 1) scope.names (cloFrom X.env.cells scope.names [])) s₄.heap.objs.size code bi X.env))),
            toks := s₄.toks + 1 + 1 + 1,
            heap := h'.push { cls := .type "generator", data := .fields #[.int s₄.gens.size 0, .str "<genexpr>" (s₄.toks + 1), .str (X.env.qual ++ "<genexpr>") (s₄.toks + 1 + 1)] } }) X.xe { s2 with heap := h3, toks := tk } := by
    intro code h3 tk H4 hx hsz I4 hT hnone hNx
    obtain ⟨bm, ob, e1, e2, e3, e4, e5, e6, e7, e8⟩ := TB.bm
    have keep3 : ∀ b u, b ≠ Pa → s2.heap.get? b = some u → h3.get? b = some u := fun b u hb e => hx b u hb e
    refine wpAny_builtinsFor (m := X.mg) (by rw [I2.ok.glob]; exact (I2.mod.glob.keeps I2.bk).extBut hx gPa) e1 e2 (keep3 _ _ (nbase _ _ e5) (I2.bk _ _ e5)) e6 e7 e8 ?_
    intro h' hn' hs'
    have okc := cellsFrom_ok scope.names (h3.push { cls := .type "frame", data := .dict #[] }) (h3.objs.size + 1) [] ⟨fun _ _ hm => (nomatch hm), List.Pairwise.nil⟩ (by rw [Heap.size_push]; exact Nat.le_refl _)
    rw [Heap.size_push] at okc
    have szh : h3.objs.size < h'.objs.size := by
      have z : (pushCells (h3.push { cls := .type "frame", data := .dict #[] }) scope.names).get? h3.objs.size = some { cls := .type "frame", data := .dict #[] } := pushCells_keeps _ _ _ _ (Heap.get?_push_size _ rfl)
      rw [hs'.1]
      exact Heap.lt_size z
    have keep' : ∀ b o, h3.get? b = some o → h'.get? b = some o := fun b o e => hs'.extBut b o (Nat.ne_of_lt (Heap.lt_size e)) (pushCells_keeps _ _ _ _ (Heap.get?_push_of_some _ e))
    have keep5 : ∀ b o, h3.get? b = some o → (h'.push { cls := .type "generator", data := .fields #[.int s2.gens.size 0, .str "<genexpr>" (tk + 1), .str (X.env.qual ++ "<genexpr>") (tk + 1 + 1)] }).get? b = some o := fun b o e => Heap.get?_push_of_some _ (keep' b o e)
    have f4 : ∀ b ∈ fp, FpOk X pins H4 b := fun b hb => ⟨hnone b (hfo b hb) (f2 b hb).1, (f2 b hb).2⟩
    have fo4 : ∀ b ∈ fp, b < h3.objs.size := fun b hb => Nat.lt_of_lt_of_le (hfo b hb) hsz
    have ltS : ∀ b, b ∈ frs X.stack → b < h3.objs.size := fun b hb => by
      obtain ⟨_, o, ho, _⟩ := I4.stack.mem hb
      exact Heap.lt_size ho
    refine hQ J H2 _ _ _ code q hT hNx ⟨{ s2 with heap := h3, toks := tk }, cellsFrom (h3.objs.size + 1) scope.names (cloFrom X.env.cells scope.names []), h3.objs.size, fp, it, tn, s2.gens.size, (X.pn ++ pins) ++ [(h'.objs.size, { cls := .type "generator", data := .fields #[.int s2.gens.size 0, .str "<genexpr>" (tk + 1), .str (X.env.qual ++ "<genexpr>") (tk + 1 + 1)] })], I4, f4, T, ?_,
      inv_gen (B := X.A.in4.in1) rfl hr.hd S I4 f4 fo4 rfl keep5 rfl ?_ (hn'.push _) (fun x c hm => by
        obtain ⟨o, ho, hd⟩ := (okc.empty x c hm).1
        exact ⟨_, o, Heap.get?_push_of_some _ (hs'.extBut c o (Nat.ne_of_gt (okc.empty x c hm).2) ho), hd⟩) ?_, ?_, ?_, ?_, ?_, ?_⟩
    · exact T.keep _ _ _ st2 fun b hb o e => keep5 b o (keep3 b o (nfP b hb) e)
    · exact AllBare.push I2.bare rfl
    · intro p hp
      rcases List.mem_append.mp hp with hp | hp
      · obtain ⟨p1, p2, p3, p4, p5⟩ := I4.pin p hp
        refine ⟨keep5 _ _ p1, p2, Nat.ne_of_lt (Heap.lt_size p1), fun z => ?_, p5⟩
        rcases List.mem_cons.mp (I4.stkSub p.1 z) with z | z
        · exact p3 z
        · exact p4 z
      · rw [List.mem_singleton] at hp
        subst hp
        refine ⟨Heap.get?_push_size _ rfl, ?_, ?_, fun z => ?_, fun v z => by cases z⟩
        · exact I4.hok.fresh (by show h3.objs.size ≤ h'.objs.size; omega)
        · show h'.objs.size ≠ h3.objs.size
          omega
        · have := ltS _ z
          have h9 : h'.objs.size < h3.objs.size := this
          omega
    · exact Array.getElem?_push_size ..
    · intro s' hp
      exact ⟨_, _, _, hp _ (List.mem_append_right _ List.mem_cons_self), rfl, rfl, rfl⟩
    · intro p hp hb
      rcases List.mem_append.mp hp with hp | hp
      · exact (f4 p.1 hb).2.2.2.2.2 p hp rfl
      · rw [List.mem_singleton] at hp
        subst hp
        exact absurd (show h'.objs.size < h3.objs.size from fo4 _ hb) (by omega)
    · intro b hb
      show b < (h'.push _).objs.size
      rw [Heap.size_push]
      exact Nat.lt_of_lt_of_le (fo4 b hb) (by omega)
    · exact ⟨_, List.mem_append_right _ List.mem_cons_self⟩
  cases hf : codeAmong gpos ps.toList with
  | none =>
    refine wpAny_genexprCodeX hcode (cd.code hPs ht) (cd.tab hPs) hf fun c' h' tk hx hge hlt hco' _ htab' ⟨P', hP'ge, hc2, ht2⟩ => ?_
    have cd2 := PySem.W.CodeHd.of hc2 ht2
    obtain ⟨o, ho, hob⟩ := codeOb_of cd2
    have ncP : c' ≠ P' := by
      obtain ⟨_, _, _, _, _, _, _, _, _, _, _, _, _, _, _, _, _, _, z⟩ := cd2
      exact z
    have nC : H2 c' = none := I2.hok.fresh hge
    have nN : H2 P' = none := I2.hok.fresh hP'ge
    refine cont _ h' tk (mkH H2 Pa c' P' ps gpos o) hx (Nat.le_trans hge (Nat.le_of_lt hlt)) (inv_made I2 hP (fun b u hb e => hx b u hb e) htab'.2 hge hP'ge ncP ho ht2.2) (mk_grow hP ht nC nN ncP hob) (fun b hb e => ?_) fun c1 hc1 B => ?_
    · have h1 : b ≠ Pa := fun z => by rw [z, hP] at e; cases e
      rw [mkH_o h1 (show b ≠ c' by omega) (show b ≠ P' by omega)]
      exact e
    · rw [hcode] at hc1
      cases hc1
      have hp := hPa B
      subst hp
      refine ⟨c', _, rfl, mkH_P hP nC nN, ?_, ?_⟩
      · rw [show (ps ++ #[rawInt gpos.line, rawInt gpos.col, Value.ref c']).toList = ps.toList ++ [rawInt gpos.line, rawInt gpos.col, .ref c'] by simp]
        exact TriplesOk_snoc _ _ _ _ ht
      · rw [show (ps ++ #[rawInt gpos.line, rawInt gpos.col, Value.ref c']).toList = ps.toList ++ [rawInt gpos.line, rawInt gpos.col, .ref c'] by simp]
        exact codeAmong_snoc _ ht hf
  | some cv =>
    refine wpAny_genexprCode_hit hcode (cd.code hPs ht) hf ?_
    refine cont cv s2.heap s2.toks H2 (Heap.ExtBut.refl _ _) (Nat.le_refl _) I2 TbR.refl (fun _ _ e => e) fun c1 hc1 B => ?_
    rw [hcode] at hc1
    cases hc1
    have hp := hPa B
    subst hp
    obtain ⟨c', o, Pn, e1, _⟩ := hg gpos cv hf
    subst e1
    exact ⟨c', ps, rfl, hP, ht, hf⟩
end
end Gq
set_option Elab.async false
set_option linter.all false
namespace Gq
open PySem PySem.Spec PyProof.Rows L2 GenW
theorem NxC.cdx {X : Cx} {P : Addr} {gpos : Pos} {code : Value} {H0 : Hp} {B : Around} {N' : List Str} {scope : Scope} {cl : List (Str × Addr)} {Ca c : Addr} {s0 : Shared} {fp : List Addr} (h : NxC X P gpos code H0) (hc : X.env.code = .ref c) (TB : LamX.TabB X.base X.mg c P) :
    Cdx (gcx X B N' (genEnv scope cl Ca code builtinsNs X.env) s0 H0 fp) P := by
  obtain ⟨c', ps0, e, h1, h2, h3⟩ := h c hc TB
  exact .made (c := c') (show code = .ref c' from e) (show LamX.TabB X.base X.mg c P from TB) h1 h2 h3
end Gq
set_option Elab.async false
set_option linter.all false
set_option maxRecDepth 100000
set_option maxHeartbeats 4000000
namespace Gq
open PySem PySem.Spec PyProof.Rows L2 GenW
theorem room_gen {k : Nat} {A : Around} (r : Room (k + 1) A) (env : Env) : Room k (A.in4.in1.deeper env) :=
  ⟨r.hd, by have := r.dp; show A.depth + 1 + 3 * k + 5 < _; omega, by have := r.un; show A.units + 1 + 1 + 1 + 1 + 1 + 3 + 16 * k + 200 < _; omega⟩
def tGen (P : Addr) (k : Nat) (wi : TI) (g : TG) (tt : TT) (te : TE) (step : List V → V → Hp → (Hp → Prop) → VK → Prop) (fin : List V → Hp → VK → Prop) : TE := fun σ H Q =>
  wi σ H fun J H1 => TabR H1 P ∧ ∀ H2, TbR H1 H2 → ∃ W : Nat → Nat → List V → Hp → Prop, (∃ m, W 0 m [] H2) ∧ ∀ i m ys H, W i m ys H →
    (J.stop i H ∧ fin ys H Q) ∨ (J.go i H ∧ ∀ x H', J.yld i H x H' → g x (σ ++ List.replicate k none) H' fun σ2 H3 => SubS (σ ++ List.replicate k none) σ2 ∧ tt σ2 H3 fun b H4 =>
      if b = true then te σ2 H4 fun y H5 => step ys y H5 (fun H6 => ∃ m', m' < m ∧ W (i + 1) m' (ys ++ [y]) H6) Q else ∃ m', m' < m ∧ W (i + 1) m' ys H4)
def stAll : List V → V → Hp → (Hp → Prop) → VK → Prop := fun _ y H nx Q => ∃ c, y = .bl c ∧ if c = true then nx H else Q (.bl false) H
def fiAll : List V → Hp → VK → Prop := fun _ H Q => Q (.bl true) H
def stTup : List V → V → Hp → (Hp → Prop) → VK → Prop := fun ys _ H nx _ => ys.length < sizeLine ∧ nx H
def fiTup : List V → Hp → VK → Prop := fun ys H Q => ys.length ≤ sizeLine ∧ NewT H ys Q
def stSum : List V → V → Hp → (Hp → Prop) → VK → Prop := fun _ y H nx _ => (∃ i, y = .int i) ∧ nx H
def fiSum : List V → Hp → VK → Prop := fun ys H Q => Q (.int (isum ys)) H
theorem inv_addpin {X : Cx} {p0 : List (Addr × Obj)} {σ : Slots} {H : Hp} {s : Shared} {h' : Heap} {t' : Nat} {S : Addr} {o : Obj} (I : Inv X p0 σ H s) (hk : ∀ b u, s.heap.get? b = some u → h'.get? b = some u) (hS : h'.get? S = some o) (hn : s.heap.objs.size ≤ S) (hd : ∀ v, o.data ≠ .cell v) :
    Inv X ((S, o) :: p0) σ H { s with heap := h', toks := t' } := by
  have J : Inv X p0 σ H { s with heap := h', toks := t' } := I.kept hk
  refine J.pins_of fun p hp => ?_
  rcases List.mem_cons.mp hp with e | hp
  · rw [e]
    exact ⟨hS, I.hok.fresh hn, Nat.ne_of_gt (Nat.lt_of_lt_of_le I.lt hn), I.nofs hn, hd⟩
  · exact J.pin p (List.mem_append_right _ hp)
section
variable {X : Cx} {pins : List (Addr × Obj)} {σ : Slots} {H H2 : Hp} {s s4 s6 : Shared} {N' : List Str} {scope : Scope} {fp : List Addr} {code : Value} {cl : List (Str × Addr)} {Ca : Addr} {C : Con} {p0 : List (Addr × Obj)} {gn it : Addr} {J : It} {tn : Nat → Heap → Prop}
  {elt tg iter : Expr} {ifs : List Expr} {gpos : Pos} {g : TG} {tt : TT} {te : TE}
theorem gst_begin {m : Nat} {o : Obj} (hco : scope.isCoroutine = false) (hf : ∀ b ∈ fp, H2 b = none) (T : Turn X.prog X.w X.K tg J fp it tn) (st : tn 0 s6.heap) (hI : Inv (gcx X X.A.in4.in1 N' (genEnv scope cl Ca code builtinsNs X.env) s4 H2 fp) ((C.S, o) :: p0) (σG X N' σ) H2 s6)
    (hc : C.CS [] o) (hgens : s6.gens[gn]? = some (.fresh (.compStart (.GeneratorExp elt [⟨tg, iter, ifs, 0⟩] scope gpos) 0 (.ref it) .none (genEnv scope cl Ca code builtinsNs X.env)))) (hp0 : ∀ p ∈ p0, p.1 ∉ fp) (hS : C.S ∉ fp) (hw : C.W 0 m [] H2) (turn : Turns C J (σG X N' σ) g tt te)
    (hg : PG (gcx X X.A.in4.in1 N' (genEnv scope cl Ca code builtinsNs X.env) s4 H2 fp) tg g) (ht : PTs (gcx X X.A.in4.in1 N' (genEnv scope cl Ca code builtinsNs X.env) s4 H2 fp) ifs tt) (he : PE (gcx X X.A.in4.in1 N' (genEnv scope cl Ca code builtinsNs X.env) s4 H2 fp) elt te) :
    GSt (gcx X X.A.in4.in1 N' (genEnv scope cl Ca code builtinsNs X.env) s4 H2 fp) C p0 X.A.in4.in1 gn (m + 1) s6 := by
  refine ⟨_, hgens, rfl, ?_⟩
  have hI' : Inv (gcx X X.A.in4.in1 N' (genEnv scope cl Ca code builtinsNs X.env) s4 H2 fp) ((C.S, o) :: p0) (σG X N' σ) H2 (s6.setGen gn .running) := inv_gens (h' := s6.heap) (t' := s6.toks) hI (allBare_setGen hI.bare rfl) fun _ _ z => z
  refine seg_begin (X := gcx X X.A.in4.in1 N' (genEnv scope cl Ca code builtinsNs X.env) s4 H2 fp) (J := J) (fp := fp) (tn := tn) (σ0 := σG X N' σ) rfl rfl rfl hco T (fun p hp => absurd hp (by simp [gcx])) hp0 hS (fun b hb => ?_) hg ht he turn m (m + 1) _ _ H2 (Nat.lt_succ_self _) o hw ?_ ⟨hc, hI'⟩ st hf
  · obtain ⟨h1, h2⟩ := hI.ok.exf b hb
    exact ⟨h1, hI.ok.exfs b hb, .inl hb, h2⟩
  · exact (hI'.pin (C.S, o) (List.mem_append_right _ List.mem_cons_self)).1
end
section
variable {X : Cx} {N' : List Str} {scope : Scope} {elt tg iter : Expr} {ifs : List Expr} {gpos p pos : Pos} {g : TG} {tt : TT} {te : TE} {wi : TI} {c P : Addr} {k r : Nat}
theorem σG_eq (hk : N'.length = X.N.length + k) (σ : Slots) : σG X N' σ = σ ++ List.replicate k none := by
  unfold σG
  rw [hk, Nat.add_sub_cancel_left]
theorem pe_allG (hr : Room (r + 1) X.A) (hgl : Gl X "all") (hm : X.mg "all" = none) (hb : bootBuiltins "all" = some (.builtin "all")) (CX : Cdx X P) (S : GScp X scope N') (hk : N'.length = X.N.length + k) (hi : PI X tg iter wi)
    (hg : ∀ cl Ca code s0 H0 fp, PG (gcx X X.A.in4.in1 N' (genEnv scope cl Ca code builtinsNs X.env) s0 H0 fp) tg g) (ht : ∀ cl Ca code s0 H0 fp, PTs (gcx X X.A.in4.in1 N' (genEnv scope cl Ca code builtinsNs X.env) s0 H0 fp) ifs tt)
    (hel : ∀ cl Ca code s0 H0 fp, NxC X P gpos code H0 → PE (gcx X X.A.in4.in1 N' (genEnv scope cl Ca code builtinsNs X.env) s0 H0 fp) elt te)
    (hs : ∀ v, genFold iter X.env v = pure v)
    (he : starEach [.GeneratorExp elt [⟨tg, iter, ifs, 0⟩] scope gpos] X.env = (false, eval (.GeneratorExp elt [⟨tg, iter, ifs, 0⟩] scope gpos) X.env) :: starEach [] X.env := by rfl) :
    PE X (.Call (.Name "all" p) [.GeneratorExp elt [⟨tg, iter, ifs, 0⟩] scope gpos] [] pos) (tGen P k wi g tt te stAll fiAll) := by
  refine ⟨fun pins s σ H Q I h => ?_⟩
  refine wpAny_Call_Name_kw (ld_blt I hgl hm hb ?_)
  refine PyProof.Rows.callWith_builtin1 ?_ he (by rfl)
  rw [he]
  show wpAny _ _ (spliced ((false, eval (.GeneratorExp elt [⟨tg, iter, ifs, 0⟩] scope gpos) X.env) :: backTo pos (starEach [] X.env))) _ _ s
  refine Calls.spliced_cons (gen_made (k := r) hr CX S hi hs I h fun J H1 H2 a s5 code hR hT hNx hM => ?_)
  obtain ⟨s4, cl, Ca, fp, it, tn, gn, p0, I4, hf, T, st, IG, hgens, hgen, hp0, hfs, ⟨og, hog⟩⟩ := hM
  obtain ⟨W, ⟨m0, w0⟩, turn⟩ := hR H2 hT
  refine Calls.spliced_nil ?_
  refine call_function_tree F.kind_all F.plain_all F.entry_all (F.args_all1 _) ?_
  unfold Builtin.«all»
  refine wpAny_bind (m := oneArg "all" _) (wpAny_pure ?_)
  have hga : s5.heap.IsGen a gn := hgen s5 fun q hq => (IG.pin q (List.mem_append_right _ hq)).1
  refine wpAny_bind (wpAny_pyIter_gen hga ?_)
  have K : Cons (gcx X X.A.in4.in1 N' (genEnv scope cl Ca code builtinsNs X.env) s4 H2 fp) { S := a, CS := fun _ o => o = og, W := W, U := fun i m ys y H5 => stAll ys y H5 (fun H6 => ∃ m', m' < m ∧ W (i + 1) m' (ys ++ [y]) H6) Q, Dn := fun ys H => fiAll ys H Q } p0 X.A.in4 X.A.in1.in1 a gn :=
    ⟨hr.hd, by have := hr.dp; show X.A.depth < _; omega, fun h => wpAny_of_in1 h, hgen⟩
  have K1 : Cons (gcx X X.A.in4.in1 N' (genEnv scope cl Ca code builtinsNs X.env) s4 H2 fp) { S := a, CS := fun _ o => o = og, W := W, U := fun i m ys y H5 => stAll ys y H5 (fun H6 => ∃ m', m' < m ∧ W (i + 1) m' (ys ++ [y]) H6) Q, Dn := fun ys H => fiAll ys H Q } p0 X.A.in4 X.A a gn :=
    ⟨K.hh, K.room, fun h => wpAny_of_in1 (wpAny_of_in1 (K.down h)), K.gen⟩
  have hgs := gst_begin (C := { S := a, CS := fun _ o => o = og, W := W, U := fun i m ys y H5 => stAll ys y H5 (fun H6 => ∃ m', m' < m ∧ W (i + 1) m' (ys ++ [y]) H6) Q, Dn := fun ys H => fiAll ys H Q }) (o := og) (σ := σ) (g := g) (tt := tt) (te := te) S.co (fun b hb => (hf b hb).1) T st
    (IG.pins_of fun q hq => IG.pin q (List.mem_append_right _ (by
      rcases List.mem_cons.mp hq with e | hq
      · rw [e]; exact hog
      · exact hq))) rfl hgens hp0 (hp0 _ hog) w0 (by
      intro i m ys H hw
      rw [σG_eq hk]
      exact turn i m ys H hw) (hg _ _ _ _ _ _) (ht _ _ _ _ _ _) (hel _ _ _ _ _ _ hNx)
  refine wpAny_pure ⟨plainId_quiet F.plain_all_loop _, all_loop (Fin := fun b H => Q (.bl b) H) K1 (fun ys x o h => h) (fun i m ys x H h => h) (fun ys H h => h) (fun b o ys σ' H' s' hq hG => ?_) (m0 + 1) s5 IG.nolimit hga hgs⟩
  exact ⟨.bl b, H', gen_back I4 hf hG.2, rfl, hq⟩
theorem collect_gq {code : Value} {P : Addr} {pins : List (Addr × Obj)} {σ : Slots} {J : It} {H2 : Hp} {a : Addr} {s5 : Shared} {A : Around} {E : Value → Shared → Prop} {Q' : List Value → Shared → Prop} {Q : VK} {fin : List V → Hp → VK → Prop} (hr : Room (r + 1) X.A) (hd : A.handled = none)
    (down : ∀ {α : Type} {t : Sem α} {Q : α → Shared → Prop} {E : Value → Shared → Prop} {s : Shared}, wpAny (model X.prog X.w) X.A.in4 t Q E s → wpAny (model X.prog X.w) A.in1 t Q E s)
    (S : GScp X scope N') (hk : N'.length = X.N.length + k)
    (hg : ∀ cl Ca code s0 H0 fp, PG (gcx X X.A.in4.in1 N' (genEnv scope cl Ca code builtinsNs X.env) s0 H0 fp) tg g) (ht : ∀ cl Ca code s0 H0 fp, PTs (gcx X X.A.in4.in1 N' (genEnv scope cl Ca code builtinsNs X.env) s0 H0 fp) ifs tt)
    (hel : ∀ cl Ca code s0 H0 fp, NxC X P gpos code H0 → PE (gcx X X.A.in4.in1 N' (genEnv scope cl Ca code builtinsNs X.env) s0 H0 fp) elt te)
    (hNx : NxC X P gpos code H2) (hM : Made X pins σ tg elt iter ifs scope gpos N' J H2 a s5 code)
    (hR : ∃ W : Nat → Nat → List V → Hp → Prop, (∃ m, W 0 m [] H2) ∧ ∀ i m ys H, W i m ys H →
      (J.stop i H ∧ fin ys H Q) ∨ (J.go i H ∧ ∀ x H', J.yld i H x H' → g x (σ ++ List.replicate k none) H' fun σ2 H3 => SubS (σ ++ List.replicate k none) σ2 ∧ tt σ2 H3 fun b H4 =>
        if b = true then te σ2 H4 fun y H5 => stTup ys y H5 (fun H6 => ∃ m', m' < m ∧ W (i + 1) m' (ys ++ [y]) H6) Q else ∃ m', m' < m ∧ W (i + 1) m' ys H4))
    (hQ : ∀ (acc : Array Value) (ys : List V) (H' : Hp) (s' : Shared), fin ys H' Q → Vals ys acc.toList → Inv X pins σ H' s' → Q' acc.toList s') :
    s5.TypeIs (.ref a) "generator" ∧ wpAny (model X.prog X.w) A (collect (.ref a)) Q' E s5 := by
  obtain ⟨s4, cl, Ca, fp, it, tn, gn, p0, I4, hf, T, st, IG, hgens, hgen, hp0, hfs, ⟨og, hog⟩⟩ := hM
  obtain ⟨W, ⟨m0, w0⟩, turn⟩ := hR
  have hga : s5.heap.IsGen a gn := hgen s5 fun q hq => (IG.pin q (List.mem_append_right _ hq)).1
  have hSa : s5.heap.objs.size ≠ a := fun e => by
    have := Heap.lt_size (IG.pin _ (List.mem_append_right _ hog)).1
    rw [← e] at this
    exact Nat.lt_irrefl _ this
  refine ⟨hga.typeIs, ?_⟩
  unfold collect
  refine wpAny_bind (wpAny_runValue (codeAny_builtin F.entry_proto_collect ?_))
  rw [Around.under_plainId F.plain_proto_collect _]
  show wpAny _ A.in1 (newList [] >>= fun l => again (.builtin "list.__iadd__" ⟨[l, .ref a], []⟩)) _ _ s5
  refine wpAny_bind (wpAny_newObj_type ?_)
  refine wpAny_pure ⟨plainId_quiet F.plain_list_iadd _, codeAny_builtin F.entry_list_iadd ?_⟩
  rw [Around.under_plainId F.plain_list_iadd _]
  show wpAny _ A.in1 (Builtin.List.listExtendWith (.ref s5.heap.objs.size) (.ref a) (.ref s5.heap.objs.size)) _ _ _
  unfold Builtin.List.listExtendWith
  have kp1 : ∀ b o, s5.heap.get? b = some o → (s5.heap.push { cls := .type "list", data := .seq ([] : List Value).toArray }).get? b = some o := fun b o e => Heap.get?_push_of_some _ e
  have hga1 := hga.keeps kp1
  refine wpAny_bind (wpAny_typeOf hga1.typeIs ?_)
  have h1 : Builtin.List.listSameRef (.ref s5.heap.objs.size) (.ref a) = false := by simp [Builtin.List.listSameRef, hSa]
  have h2 : (Value.type "generator" == Value.type "list") = false := by decide
  have h3 : (Value.type "generator" == Value.type "tuple") = false := by decide
  simp only [h1, h2, h3, Bool.or_false, Bool.false_eq_true, if_false]
  refine wpAny_bind (wpAny_pyIter_gen hga1 ?_)
  refine wpAny_bind (wpAny_holding ?_)
  unfold Builtin.List.listLengthHint
  refine wpAny_bind (wpAny_specialOf hga1.typeIs F.gen_no_len ?_)
  show wpAny _ A.in1 (specialOf (Value.ref a) (Str.ofString "__length_hint__") >>= _) _ _ _
  refine wpAny_bind (wpAny_specialOf hga1.typeIs F.gen_no_hint ?_)
  refine wpAny_pure ?_
  show wpAny _ A.in1 (rule "list.extend.makes-room" >>= fun _ => Builtin.List.listTouch (.ref s5.heap.objs.size) >>= fun _ =>
    again (.builtin "list.extend.loop" ⟨[.ref s5.heap.objs.size, .ref a, .ref s5.heap.objs.size], []⟩)) _ _ _
  refine wpAny_bind (wpAny_rule ?_)
  have hS1 : (s5.heap.push { cls := .type "list", data := .seq ([] : List Value).toArray }).get? s5.heap.objs.size = some { cls := .type "list", data := .seq ([] : List Value).toArray } := Heap.get?_push_size _ rfl
  refine wpAny_bind ?_
  show wpAny _ A.in1 (updateSeq s5.heap.objs.size (·.push .none) >>= fun _ => updateSeq s5.heap.objs.size (·.pop)) _ _ _
  refine wpAny_bind (wpAny_updateSeq hS1 rfl ?_)
  have hS2 := Heap.get?_update_self (Obj.mapSeq (·.push Value.none)) hS1 rfl
  refine wpAny_updateSeq hS2 rfl ?_
  have hS3 := Heap.get?_update_self (Obj.mapSeq (·.pop)) hS2 rfl
  have oth : ∀ b o, s5.heap.get? b = some o →
      (((s5.heap.push { cls := .type "list", data := .seq ([] : List Value).toArray }).update s5.heap.objs.size (Obj.mapSeq (·.push Value.none))).update s5.heap.objs.size (Obj.mapSeq (·.pop))).get? b = some o :=
    fun b o e => (Heap.get?_update_other _ _ (Nat.ne_of_gt (Heap.lt_size e))).trans ((Heap.get?_update_other _ _ (Nat.ne_of_gt (Heap.lt_size e))).trans (Heap.get?_push_of_some _ e))
  let C0 : Con := { S := s5.heap.objs.size, CS := fun ys o => ∃ acc c, Vals ys acc.toList ∧ o = lstObj acc c, W := W, U := fun i m ys y H5 => stTup ys y H5 (fun H6 => ∃ m', m' < m ∧ W (i + 1) m' (ys ++ [y]) H6) Q, Dn := fun ys H => fin ys H Q }
  have hSfp : C0.S ∉ fp := fun hb => Nat.lt_irrefl _ (hfs _ hb)
  have K : Cons (gcx X X.A.in4.in1 N' (genEnv scope cl Ca code builtinsNs X.env) s4 H2 fp) C0 p0 X.A.in4 A a gn := ⟨hr.hd, by have := hr.dp; show X.A.depth < _; omega, down, hgen⟩
  have IS := inv_addpin (t' := s5.toks) IG oth hS3 (Nat.le_refl _) (fun v z => by cases z)
  have hgs := gst_begin (C := C0) (σ := σ) (g := g) (tt := tt) (te := te) S.co (fun b hb => (hf b hb).1) T (T.keep _ _ _ st fun b hb o e => oth b o e) IS
    ⟨_, _, Paired.nil, rfl⟩ hgens hp0 hSfp w0 (by
      intro i m ys H hw
      rw [σG_eq hk]
      exact turn i m ys H hw) (hg _ _ _ _ _ _) (ht _ _ _ _ _ _) (hel _ _ _ _ _ _ hNx)
  have own : Own (gcx X X.A.in4.in1 N' (genEnv scope cl Ca code builtinsNs X.env) s4 H2 fp) C0 p0 := ⟨IG.sz, fun x c e z => by
    obtain ⟨v, q⟩ := IG.cell x c e
    have q2 : c < s5.heap.objs.size := q.lt
    rw [show c = s5.heap.objs.size from z] at q2
    exact Nat.lt_irrefl _ q2, fun q hq => absurd hq (by simp [gcx])⟩
  refine wpAny_pure ⟨plainId_quiet F.plain_extend_loop _, ext_loop (Fin := fun ys H => fin ys H Q) K own (fun q hq z => ?_) rfl (fun i m ys x H h => h) (fun ys H h => h) (fun acc c ys σ' H' s' hq rv hG => ?_) (m0 + 1) _ IS.nolimit (hga.keeps oth) hgs⟩
  · have := Heap.lt_size (IG.pin q (List.mem_append_right _ hq)).1
    rw [show q.1 = s5.heap.objs.size from z] at this
    exact Nat.lt_irrefl _ this
  · show wpAny _ A (load s5.heap.objs.size >>= _) _ _ s'
    refine wpAny_bind (wpAny_load (show s'.heap.get? s5.heap.objs.size = some (lstObj acc c) from hG.at) ?_)
    exact wpAny_pure (hQ acc ys H' s' hq rv (gen_back I4 hf hG.2))
theorem pe_tupG (hr : Room (r + 1) X.A) (hgl : Gl X "tuple") (hm : X.mg "tuple" = none) (hb : bootBuiltins "tuple" = some (.type "tuple")) (CX : Cdx X P) (S : GScp X scope N') (hk : N'.length = X.N.length + k) (hi : PI X tg iter wi)
    (hg : ∀ cl Ca code s0 H0 fp, PG (gcx X X.A.in4.in1 N' (genEnv scope cl Ca code builtinsNs X.env) s0 H0 fp) tg g) (ht : ∀ cl Ca code s0 H0 fp, PTs (gcx X X.A.in4.in1 N' (genEnv scope cl Ca code builtinsNs X.env) s0 H0 fp) ifs tt)
    (hel : ∀ cl Ca code s0 H0 fp, NxC X P gpos code H0 → PE (gcx X X.A.in4.in1 N' (genEnv scope cl Ca code builtinsNs X.env) s0 H0 fp) elt te)
    (hs : ∀ v, genFold iter X.env v = pure v)
    (he : starEach [.GeneratorExp elt [⟨tg, iter, ifs, 0⟩] scope gpos] X.env = (false, eval (.GeneratorExp elt [⟨tg, iter, ifs, 0⟩] scope gpos) X.env) :: starEach [] X.env := by rfl) :
    PE X (.Call (.Name "tuple" p) [.GeneratorExp elt [⟨tg, iter, ifs, 0⟩] scope gpos] [] pos) (tGen P k wi g tt te stTup fiTup) := by
  refine ⟨fun pins s σ H Q I h => ?_⟩
  refine wpAny_Call_Name_kw (ld_blt I hgl hm hb ?_)
  refine PyProof.Rows.callWith_type1 ?_ he (by rfl)
  rw [he]
  show wpAny _ _ (spliced ((false, eval (.GeneratorExp elt [⟨tg, iter, ifs, 0⟩] scope gpos) X.env) :: backTo pos (starEach [] X.env))) _ _ s
  refine Calls.spliced_cons (gen_made (k := r) hr CX S hi hs I h fun J H1 H2 a s5 code hR hT hNx hM => ?_)
  refine Calls.spliced_nil ?_
  have hR2 := hR H2 hT
  obtain ⟨hTI, hcol⟩ := collect_gq (A := X.A.in1.in1) (E := fun _ _ => False) (Q := Q) (fin := fiTup) (Q' := fun us s' => ∃ ys H', us.length ≤ sizeLine ∧ fiTup ys H' Q ∧ Vals ys us ∧ Inv X pins σ H' s') hr hr.hd (fun h => wpAny_of_in1 h) S hk hg ht hel hNx hM hR2 (fun acc ys H' s' hq rv I' => ⟨ys, H', by rw [← rv.length]; exact hq.1, hq, rv, I'⟩)
  refine callType_codes (Q₁ := fun obj s₁ => s₁.TypeIs obj "tuple" ∧ EP X pins σ Q obj s₁) F.called_tuple (F.typeCall_tuple_1 _) F.entry_object_init ?_ fun obj s₁ h₁ => ?_
  · refine codeAny_of_tree ?_
    show wpAny _ X.A.in1.in1 (do checkBuiltinCall "tuple.__new__" ⟨[.type "tuple", .ref a], []⟩; again (.builtin "tuple.__new__" ⟨[.type "tuple", .ref a], []⟩)) _ _ s5
    refine wpAny_bind (wpAny_of_eq (F.newCall_tuple_1 _) (wpAny_pure ⟨plainId_quiet F.plain_tuple_new _, codeAny_builtin F.entry_tuple_new ?_⟩))
    rw [Around.under_plainId F.plain_tuple_new _]
    have hsub := sub_tuple_self
    have hinit := init_tuple_lookup
    have hmh := madeHere_tuple
    have hc : ∀ {Q'' : List Value → Shared → Prop} {E : Value → Shared → Prop}, (∀ us s', (∃ ys H', us.length ≤ sizeLine ∧ fiTup ys H' Q ∧ Vals ys us ∧ Inv X pins σ H' s') → Q'' us s') → wpAny (model X.prog X.w) X.A.in1.in1 (collect (.ref a)) Q'' E s5 := fun h => wpAny_mono hcol (fun us s' z => h us s' z) fun _ _ z => z.elim
    wp_walk using wpAny_typeOf hTI, hc
    intro us s' ⟨ys, H', hl, hq, rv, I'⟩
    show wpAny _ _ (Builtin.Tuple.tupleExact us.toArray >>= fun v => ret v) _ _ _
    unfold Builtin.Tuple.tupleExact
    refine wpAny_bind (wpAny_newObj_type ?_ (by show us.toArray.size ≤ sizeLine; rw [List.size_toArray]; exact hl))
    refine wpAny_pure ⟨⟨_, Heap.get?_push_size _ rfl, rfl⟩, ?_⟩
    exact new_tup I' rv hq.1 hq.2
  · exact ⟨h₁.1, F.args_object_init_2 obj _, object_init_meets F.called_tuple.init.lookup F.called_tuple.made (by decide) X.prog X.w X.A.in1 _ s₁ ⟨h₁.1, rfl, h₁.2⟩⟩
theorem pe_sumG (hr : Room (r + 1) X.A) (hgl : Gl X "sum") (hm : X.mg "sum" = none) (hb : bootBuiltins "sum" = some (.builtin "sum")) (CX : Cdx X P) (S : GScp X scope N') (hk : N'.length = X.N.length + k) (hi : PI X tg iter wi)
    (hg : ∀ cl Ca code s0 H0 fp, PG (gcx X X.A.in4.in1 N' (genEnv scope cl Ca code builtinsNs X.env) s0 H0 fp) tg g) (ht : ∀ cl Ca code s0 H0 fp, PTs (gcx X X.A.in4.in1 N' (genEnv scope cl Ca code builtinsNs X.env) s0 H0 fp) ifs tt)
    (hel : ∀ cl Ca code s0 H0 fp, NxC X P gpos code H0 → PE (gcx X X.A.in4.in1 N' (genEnv scope cl Ca code builtinsNs X.env) s0 H0 fp) elt te)
    (hs : ∀ v, genFold iter X.env v = pure v)
    (he : starEach [.GeneratorExp elt [⟨tg, iter, ifs, 0⟩] scope gpos] X.env = (false, eval (.GeneratorExp elt [⟨tg, iter, ifs, 0⟩] scope gpos) X.env) :: starEach [] X.env := by rfl) :
    PE X (.Call (.Name "sum" p) [.GeneratorExp elt [⟨tg, iter, ifs, 0⟩] scope gpos] [] pos) (tGen P k wi g tt te stSum fiSum) := by
  refine ⟨fun pins s σ H Q I h => ?_⟩
  refine wpAny_Call_Name_kw (ld_blt I hgl hm hb ?_)
  refine PyProof.Rows.callWith_builtin1 ?_ he (by rfl)
  rw [he]
  show wpAny _ _ (spliced ((false, eval (.GeneratorExp elt [⟨tg, iter, ifs, 0⟩] scope gpos) X.env) :: backTo pos (starEach [] X.env))) _ _ s
  refine Calls.spliced_cons (gen_made (k := r) hr CX S hi hs I h fun J H1 H2 a s5 code hR hT hNx hM => ?_)
  obtain ⟨s4, cl, Ca, fp, it, tn, gn, p0, I4, hf, T, st, IG, hgens, hgen, hp0, hfs, ⟨og, hog⟩⟩ := hM
  obtain ⟨W, ⟨m0, w0⟩, turn⟩ := hR H2 hT
  refine Calls.spliced_nil ?_
  refine call_function_tree F.kind_sum F.plain_sum F.entry_sum (F.args_sum1 _) ?_
  unfold Builtin.«sum»
  simp only [List.length_cons, List.length_nil]
  rw [if_neg (by decide)]
  refine wpAny_bind (wpAny_of_eq (show Builtin.Builtins.bindParams "sum" ["start"] 0 { } = pure [none] from rfl) ?_)
  have hga : s5.heap.IsGen a gn := hgen s5 fun q hq => (IG.pin q (List.mem_append_right _ hq)).1
  refine wpAny_bind (wpAny_pyIter_gen hga ?_)
  refine wpAny_bind (wpAny_mkInt ?_)
  refine wpAny_bind (wpAny_pure ?_)
  simp only [List.forIn_cons, List.forIn_nil]
  refine wpAny_bind (wpAny_bind (wpAny_bind (wpAny_isInstance (T := "int") (b := false) (typeIs_int _ _ _) PySem.sub_int_str ?_)))
  simp only [Bool.false_eq_true, if_false]
  refine wpAny_pure (wpAny_bind (wpAny_bind (wpAny_isInstance (T := "int") (b := false) (typeIs_int _ _ _) PySem.sub_int_bytes ?_)))
  simp only [Bool.false_eq_true, if_false]
  refine wpAny_pure (wpAny_bind (wpAny_bind (wpAny_isInstance (T := "int") (b := false) (typeIs_int _ _ _) PySem.sub_int_bytearray ?_)))
  simp only [Bool.false_eq_true, if_false]
  refine wpAny_pure (wpAny_pure ?_)
  refine wpAny_bind (wpAny_newObj_type ?_)
  let C0 : Con := { S := s5.heap.objs.size, CS := fun ys o => ∃ t c, o = sumObj (isum ys) t c, W := W, U := fun i m ys y H5 => stSum ys y H5 (fun H6 => ∃ m', m' < m ∧ W (i + 1) m' (ys ++ [y]) H6) Q, Dn := fun ys H => fiSum ys H Q }
  have hSfp : C0.S ∉ fp := fun hb => Nat.lt_irrefl _ (hfs _ hb)
  have K : Cons (gcx X X.A.in4.in1 N' (genEnv scope cl Ca code builtinsNs X.env) s4 H2 fp) C0 p0 X.A.in4 X.A a gn := ⟨hr.hd, by have := hr.dp; show X.A.depth < _; omega, fun h => wpAny_of_in1 (wpAny_of_in1 (wpAny_of_in1 h)), hgen⟩
  have kp1 : ∀ b o, s5.heap.get? b = some o → (s5.heap.push (sumObj 0 s5.toks 0)).get? b = some o := fun b o e => Heap.get?_push_of_some _ e
  have IS := inv_addpin (t' := s5.toks + 1) IG kp1 (Heap.get?_push_size _ rfl) (Nat.le_refl _) (fun v z => by cases z)
  have hgs := gst_begin (C := C0) (σ := σ) (g := g) (tt := tt) (te := te) S.co (fun b hb => (hf b hb).1) T (T.keep _ _ _ st fun b hb o e => kp1 b o e) IS
    ⟨_, _, rfl⟩ hgens hp0 hSfp w0 (by
      intro i m ys H hw
      rw [σG_eq hk]
      exact turn i m ys H hw) (hg _ _ _ _ _ _) (ht _ _ _ _ _ _) (hel _ _ _ _ _ _ hNx)
  have own : Own (gcx X X.A.in4.in1 N' (genEnv scope cl Ca code builtinsNs X.env) s4 H2 fp) C0 p0 := ⟨IG.sz, fun x c e z => by
    obtain ⟨v, q⟩ := IG.cell x c e
    have q2 : c < s5.heap.objs.size := q.lt
    rw [show c = s5.heap.objs.size from z] at q2
    exact Nat.lt_irrefl _ q2, fun q hq => absurd hq (by simp [gcx])⟩
  refine wpAny_pure ⟨plainId_quiet F.plain_sum_loop _, sum_loop (Fin := fun ys H => fiSum ys H Q) K own (fun q hq z => ?_) rfl (fun i m ys x H h => h) (fun ys H h => h) (fun t o ys σ' H' s' hq hG => ?_) (m0 + 1) _ 0 [] _ (.inl rfl) IS.nolimit (hga.keeps kp1) (Heap.get?_push_size _ rfl) ⟨_, _, rfl⟩ hgs⟩
  · have := Heap.lt_size (IG.pin q (List.mem_append_right _ hq)).1
    rw [show q.1 = s5.heap.objs.size from z] at this
    exact Nat.lt_irrefl _ this
  · exact ⟨.int (isum ys), H', gen_back I4 hf hG.2, ⟨t, rfl⟩, hq⟩
end
end Gq
set_option Elab.async false
set_option linter.all false
set_option maxRecDepth 100000
set_option maxHeartbeats 4000000
namespace Dv
open PySem PySem.Spec PyProof.Rows L2 Gq
abbrev PD := PyData
def SqF (K : PySem.W.Frag) (H : Hp) (a : Addr) (xs : List V) : Prop :=
  (∃ o, H a = some (.frz o (.lst xs))) ∨
    ∃ (o : Obj) (its : Array Value) (n : Nat), K.lookup a = some o ∧ o.cls = .type "list" ∧ o.dict = none ∧ o.data = .seq its n ∧ its.size ≤ sizeLine ∧ Vals xs its.toList
theorem SqF.sql {K : PySem.W.Frag} {H : Hp} {a : Addr} {xs : List V} (h : SqF K H a xs) : SqL K H a xs := by
  rcases h with h | h
  · exact .inl (.inr h)
  · exact .inr h
mutual
inductive Tr (K : PySem.W.Frag) (H : Hp) : V → PD → Prop
  | non : Tr K H .non .none
  | bl (b : Bool) : Tr K H (.bl b) (.bool b)
  | int (i : Int) : Tr K H (.int i) (.int i)
  | str (x : Str) : Tr K H (.str x) (.str x)
  | lst {a : Addr} {xs : List V} {ds : List PD} : SqF K H a xs → TrA K H xs ds → Tr K H (.ref a) (.list ds)
  | tup {a : Addr} {xs : List V} {ds : List PD} : SqTF K H a xs → TrA K H xs ds → Tr K H (.ref a) (.tuple ds)
inductive TrA (K : PySem.W.Frag) (H : Hp) : List V → List PD → Prop
  | nil : TrA K H [] []
  | cons {v : V} {vs : List V} {d : PD} {ds : List PD} : Tr K H v d → TrA K H vs ds → TrA K H (v :: vs) (d :: ds)
end
inductive Tw (K : PySem.W.Frag) (H : Hp) : V → PD → Prop
  | tr {v : V} {d : PD} : Tr K H v d → Tw K H v d
  | own {a : Addr} {xs : List V} {ds : List PD} : H a = some (.lst xs) → TrA K H xs ds → Tw K H (.ref a) (.list ds)
section
variable {K : PySem.W.Frag} {H H' H1 H2 : Hp}
mutual
theorem Tr.dp : ∀ {v : V} {d : PD}, Tr K H v d → Dp K H v d
  | _, _, .non => .non
  | _, _, .bl b => .bl b
  | _, _, .int i => .int i
  | _, _, .str x => .str x
  | _, _, .lst h t => .lst h.sql (TrA.dp t)
  | _, _, .tup h t => .tup h.sqt (TrA.dp t)
theorem TrA.dp : ∀ {vs : List V} {ds : List PD}, TrA K H vs ds → DpAll K H vs ds
  | _, _, .nil => .nil
  | _, _, .cons h t => .cons (Tr.dp h) (TrA.dp t)
end
theorem Tw.dp {v : V} {d : PD} (h : Tw K H v d) : Dp K H v d := by
  cases h with
  | tr h => exact h.dp
  | own h t => exact .lst (SqL.of h) t.dp
structure KeepH (H H' : Hp) : Prop where
  tup : ∀ b xs, H b = some (.tup xs) → H' b = some (.tup xs)
  frz : ∀ b o u, H b = some (.frz o u) → H' b = some (.frz o u)
theorem KeepH.sqf (k : KeepH H H') {a : Addr} {xs : List V} (h : SqF K H a xs) : SqF K H' a xs := by
  rcases h with ⟨o, h⟩ | h
  · exact .inl ⟨o, k.frz _ _ _ h⟩
  · exact .inr h
theorem KeepH.sqtf (k : KeepH H H') {a : Addr} {xs : List V} (h : SqTF K H a xs) : SqTF K H' a xs := by
  rcases h with ⟨o, h, d⟩ | h
  · exact .inl ⟨o, k.frz _ _ _ h, d⟩
  · exact .inr h
theorem KeepH.sqt (k : KeepH H H') {a : Addr} {xs : List V} (h : SqT K H a xs) : SqT K H' a xs := by
  rcases h with (h | ⟨o, h⟩) | h
  · exact .inl (.inl (k.tup _ _ h))
  · exact .inl (.inr ⟨o, k.frz _ _ _ h⟩)
  · exact .inr h
mutual
theorem Tr.keep (k : KeepH H H') : ∀ {v : V} {d : PD}, Tr K H v d → Tr K H' v d
  | _, _, .non => .non
  | _, _, .bl b => .bl b
  | _, _, .int i => .int i
  | _, _, .str x => .str x
  | _, _, .lst h t => .lst (k.sqf h) (TrA.keep k t)
  | _, _, .tup h t => .tup (k.sqtf h) (TrA.keep k t)
theorem TrA.keep (k : KeepH H H') : ∀ {vs : List V} {ds : List PD}, TrA K H vs ds → TrA K H' vs ds
  | _, _, .nil => .nil
  | _, _, .cons h t => .cons (Tr.keep k h) (TrA.keep k t)
end
theorem TrA.len : ∀ {vs : List V} {ds : List PD}, TrA K H vs ds → vs.length = ds.length
  | _, _, .nil => rfl
  | _, _, .cons _ t => by simp [TrA.len t]
theorem TrA.get : ∀ {vs : List V} {ds : List PD} {i : Nat} {d : PD}, TrA K H vs ds → ds[i]? = some d → ∃ v, vs[i]? = some v ∧ Tr K H v d
  | _, _, _, _, .nil, e => by simp at e
  | _, _, 0, _, .cons h _, e => by simp at e; subst e; exact ⟨_, rfl, h⟩
  | _, _, i + 1, d, .cons _ t, e => by
    obtain ⟨v, h1, h2⟩ := TrA.get (i := i) (d := d) t (by simpa using e)
    exact ⟨v, by simpa using h1, h2⟩
theorem TrA.getV : ∀ {vs : List V} {ds : List PD} {i : Nat} {v : V}, TrA K H vs ds → vs[i]? = some v → ∃ d, ds[i]? = some d ∧ Tr K H v d
  | _, _, _, _, .nil, e => by simp at e
  | _, _, 0, _, .cons h _, e => by simp at e; subst e; exact ⟨_, rfl, h⟩
  | _, _, i + 1, v, .cons _ t, e => by
    obtain ⟨d, h1, h2⟩ := TrA.getV (i := i) (v := v) t (by simpa using e)
    exact ⟨d, by simpa using h1, h2⟩
theorem TrA.append : ∀ {vs ws : List V} {ds es : List PD}, TrA K H vs ds → TrA K H ws es → TrA K H (vs ++ ws) (ds ++ es)
  | _, _, _, _, .nil, s => s
  | _, _, _, _, .cons h t, s => .cons h (TrA.append t s)
theorem TrA.take : ∀ {vs : List V} {ds : List PD} (n : Nat), TrA K H vs ds → TrA K H (vs.take n) (ds.take n)
  | _, _, 0, _ => .nil
  | _, _, _ + 1, .nil => .nil
  | _, _, n + 1, .cons h t => .cons h (TrA.take n t)
theorem TrA.drop : ∀ {vs : List V} {ds : List PD} (n : Nat), TrA K H vs ds → TrA K H (vs.drop n) (ds.drop n)
  | _, _, 0, h => h
  | _, _, _ + 1, .nil => .nil
  | _, _, n + 1, .cons _ t => TrA.drop n t
theorem TrA.set {v : V} {d : PD} (h : Tr K H v d) : ∀ {vs : List V} {ds : List PD} (n : Nat), TrA K H vs ds → TrA K H (vs.set n v) (ds.set n d)
  | _, _, _, .nil => .nil
  | _, _, 0, .cons _ t => .cons h t
  | _, _, n + 1, .cons q t => .cons q (TrA.set h n t)
theorem KeepH.refl : KeepH H H := ⟨fun _ _ e => e, fun _ _ _ e => e⟩
theorem KeepH.trans (a : KeepH H H1) (b : KeepH H1 H2) : KeepH H H2 := ⟨fun c xs e => b.tup c xs (a.tup c xs e), fun c o u e => b.frz c o u (a.frz c o u e)⟩
theorem KeepH.new {p : Addr} {o : HO} (h : H p = none) : KeepH H (upd H p o) := ⟨fun b xs e => by rw [upd_ne (ne_of_none e h)]; exact e, fun b o u e => by rw [upd_ne (ne_of_none e h)]; exact e⟩
theorem KeepH.lst {p : Addr} {o : HO} {xs : List V} (h : H p = some (.lst xs)) : KeepH H (upd H p o) :=
  ⟨fun b ys e => by rw [upd_ne (ne_of e h (by intro z; cases z))]; exact e, fun b o u e => by rw [upd_ne (ne_of e h (by intro z; cases z))]; exact e⟩
end
inductive Slt where
  | no
  | val (d : PD)
  | own (bo : Bool) (l : List PD)
abbrev Rho := List Slt
def OwA (ρ : Rho) (σ : Slots) (b : Addr) : Prop := ∃ (i : Nat) (bo : Bool) (l : List PD), ρ[i]? = some (.own bo l) ∧ σ[i]? = some (some (.ref b))
structure RepS (K : PySem.W.Frag) (T : List Addr) (ρ : Rho) (σ : Slots) (H : Hp) : Prop where
  val : ∀ (i : Nat) (d : PD), ρ[i]? = some (.val d) → ∃ v, σ[i]? = some (some v) ∧ Tr K H v d
  own : ∀ (i : Nat) (bo : Bool) (l : List PD), ρ[i]? = some (.own bo l) → ∃ a xs, σ[i]? = some (some (.ref a)) ∧ H a = some (.lst xs) ∧ TrA K H xs l
  sep : ∀ (i j : Nat) (bo : Bool) (l : List PD) (bo' : Bool) (l' : List PD) (a : Addr), ρ[i]? = some (.own bo l) → ρ[j]? = some (.own bo' l') → σ[i]? = some (some (.ref a)) → σ[j]? = some (some (.ref a)) → i = j
  tabs : ∀ P ∈ T, TabR H P
  len : ρ.length = σ.length
structure Fm (T : List Addr) (ρ : Rho) (σ : Slots) (H H' : Hp) : Prop where
  keep : ∀ b o, H b = some o → (∀ qs, o ≠ .tbl qs) → ¬ OwA ρ σ b → H' b = some o
  dom : ∀ b, H' b = none → H b = none
  tab : ∀ P, TabR H P → TabR H' P
section
variable {K : PySem.W.Frag} {T : List Addr} {ρ ρ1 ρ2 : Rho} {σ σ1 σ2 : Slots} {H H1 H2 : Hp}
theorem RepS.ow (R : RepS K T ρ σ H) {b : Addr} (h : OwA ρ σ b) : ∃ xs, H b = some (.lst xs) := by
  obtain ⟨i, bo, l, e1, e2⟩ := h
  obtain ⟨a, xs, e3, e4, _⟩ := R.own i bo l e1
  rw [e2] at e3
  cases e3
  exact ⟨xs, e4⟩
theorem RepS.tb (R : RepS K T ρ σ H) {b : Addr} (h : b ∈ T) : ∃ ps, H b = some (.tbl ps) := by
  obtain ⟨ps, e, _⟩ := (R.tabs b h).ex
  exact ⟨ps, e⟩
theorem RepS.keepOf (R : RepS K T ρ σ H) (F : Fm T ρ σ H H1) : KeepH H H1 := by
  have go : ∀ b o, H b = some o → (∀ xs, o ≠ .lst xs) → (∀ ps, o ≠ .tbl ps) → H1 b = some o := fun b o e h1 h2 => by
    refine F.keep b o e h2 fun z => ?_
    · obtain ⟨xs, e'⟩ := R.ow z
      rw [e] at e'; cases e'
      exact h1 xs rfl
  exact ⟨fun b xs e => go b _ e (fun _ z => by cases z) (fun _ z => by cases z), fun b o u e => go b _ e (fun _ z => by cases z) (fun _ z => by cases z)⟩
theorem Fm.refl : Fm T ρ σ H H := ⟨fun _ _ e _ _ => e, fun _ e => e, fun _ x => x⟩
theorem Fm.trans (a : Fm T ρ σ H H1) (b : Fm T ρ1 σ1 H1 H2) (hs : ∀ b, OwA ρ1 σ1 b → OwA ρ σ b ∨ H b = none) : Fm T ρ σ H H2 := by
  refine ⟨fun c o e h1 h2 => b.keep c o (a.keep c o e h1 h2) h1 (fun z => ?_), fun c e => a.dom c (b.dom c e), fun P x => b.tab P (a.tab P x)⟩
  rcases hs c z with z | z
  · exact h2 z
  · rw [e] at z; cases z
theorem Fm.ext (h : ∀ b o, H b = some o → H1 b = some o) : Fm T ρ σ H H1 := by
  refine ⟨fun b o e _ _ => h b o e, fun b e => ?_, fun P x => x.ext h⟩
  cases q : H b with
  | none => rfl
  | some o => rw [h b o q] at e; cases e
theorem RepS.ext (R : RepS K T ρ σ H) (h : ∀ b o, H b = some o → H1 b = some o) : RepS K T ρ σ H1 := by
  have k : KeepH H H1 := ⟨fun b xs e => h _ _ e, fun b o u e => h _ _ e⟩
  refine ⟨fun i d e => ?_, fun i bo l e => ?_, R.sep, fun P hP => ?_, R.len⟩
  · obtain ⟨v, e1, e2⟩ := R.val i d e
    exact ⟨v, e1, e2.keep k⟩
  · obtain ⟨a, xs, e1, e2, e3⟩ := R.own i bo l e
    exact ⟨a, xs, e1, h _ _ e2, e3.keep k⟩
  · exact (R.tabs P hP).ext h
end
theorem _root_.Gq.TabR.lst {H : Hp} {a P : Addr} {xs : List V} {o : HO} (h : H a = some (.lst xs)) (x : TabR H P) : TabR (upd H a o) P :=
  x.keep (fun b qs e => by rw [upd_ne (ne_of e h (by intro z; cases z))]; exact e) fun b o u e => by rw [upd_ne (ne_of e h (by intro z; cases z))]; exact e
inductive Rs where
  | val (d : PD)
  | slot (i : Nat)
  | new (l : List PD)
def ResOk (K : PySem.W.Frag) (ρ' : Rho) (σ : Slots) (H H' : Hp) : Rs → V → Prop
  | .val d, v => Tr K H' v d
  | .slot i, v => σ[i]? = some (some v) ∧ ∃ x, ρ'[i]? = some x ∧ x ≠ .no
  | .new l, v => ∃ a xs, v = .ref a ∧ H' a = some (.lst xs) ∧ TrA K H' xs l ∧ ¬ OwA ρ' σ a ∧ H a = none
structure PostE (K : PySem.W.Frag) (T : List Addr) (ρ : Rho) (σ : Slots) (H : Hp) (r : Rs) (ρ' : Rho) (v : V) (H' : Hp) : Prop where
  rep : RepS K T ρ' σ H'
  fm : Fm T ρ σ H H'
  sub : ∀ b, OwA ρ' σ b → OwA ρ σ b
  mon : ∀ (i : Nat) (x : Slt), ρ[i]? = some x → x ≠ .no → ∃ y, ρ'[i]? = some y ∧ y ≠ .no
  bor : ∀ (i : Nat) (l : List PD), ρ[i]? = some (.own true l) → ∃ l', ρ'[i]? = some (.own true l')
  res : ResOk K ρ' σ H H' r v
abbrev Ev := Rho → Option (Rs × Rho)
def tS (K : PySem.W.Frag) (T : List Addr) (f : Ev) : TE := fun σ H Q => ∃ ρ r ρ', RepS K T ρ σ H ∧ f ρ = some (r, ρ') ∧ ∀ v H', PostE K T ρ σ H r ρ' v H' → Q v H'
def SE (X : Cx) (T : List Addr) (e : Expr) (f : Ev) : Prop := PE X e (tS X.K T f)
theorem PE.imp {X : Cx} {e : Expr} {t t' : TE} (h : PE X e t') (w : ∀ σ H Q, t σ H Q → t' σ H Q) : PE X e t := ⟨fun pins s σ H Q I q => h.run pins s σ H Q I (w σ H Q q)⟩
theorem PT.imp {X : Cx} {e : Expr} {t t' : TT} (h : PT X e t') (w : ∀ σ H Q, t σ H Q → t' σ H Q) : PT X e t := ⟨fun pins s σ H Q I q => h.run pins s σ H Q I (w σ H Q q)⟩
theorem PS.imp {X : Cx} {e : Stmt} {t t' : TS} (h : PS X e t') (w : ∀ D σ H, t D σ H → t' D σ H) : PS X e t := ⟨fun pins s σ H Q I q => h.run pins s σ H Q I (w Q σ H q)⟩
theorem PSs.imp {X : Cx} {e : List Stmt} {t t' : TS} (h : PSs X e t') (w : ∀ D σ H, t D σ H → t' D σ H) : PSs X e t := ⟨fun pins s σ H Q I q => h.run pins s σ H Q I (w Q σ H q)⟩
def pk (r : Rs) (ρ : Rho) : Option PD := match r with
  | .val d => some d
  | .new l => some (.list l)
  | .slot i => match ρ[i]? with
    | some (.val d) => some d
    | some (.own _ l) => some (.list l)
    | _ => none
section
variable {K : PySem.W.Frag} {T : List Addr} {ρ ρ1 ρ2 : Rho} {σ : Slots} {H H1 H2 : Hp} {r r2 : Rs} {v v2 : V}
theorem PostE.keep (R : RepS K T ρ σ H) (P : PostE K T ρ σ H r ρ1 v H1) : KeepH H H1 := R.keepOf P.fm
theorem PostE.held (P : PostE K T ρ σ H r ρ1 v H1) (P2 : PostE K T ρ1 σ H1 r2 ρ2 v2 H2) : PostE K T ρ σ H r ρ2 v H2 := by
  have k : KeepH H1 H2 := P.rep.keepOf P2.fm
  refine ⟨P2.rep, P.fm.trans P2.fm fun b z => .inl (P.sub b z), fun b z => P.sub b (P2.sub b z), fun i x e n => (let ⟨y, e1, n1⟩ := P.mon i x e n; P2.mon i y e1 n1), fun i l e => (let ⟨l1, e1⟩ := P.bor i l e; P2.bor i l1 e1), ?_⟩
  have res := P.res
  cases r with
  | val d => exact Tr.keep k res
  | slot i =>
    obtain ⟨e, x, hx, hn⟩ := res
    exact ⟨e, P2.mon i x hx hn⟩
  | new l =>
    obtain ⟨a, xs, e, ha, ht, hn, h0⟩ := res
    exact ⟨a, xs, e, P2.fm.keep a _ ha (fun _ z => by cases z) hn, ht.keep k, fun z => hn (P2.sub a z), h0⟩
theorem PostE.tw (P : PostE K T ρ σ H r ρ1 v H1) {d : PD} (h : pk r ρ1 = some d) : Tw K H1 v d := by
  have res := P.res
  cases r with
  | val d' =>
    have e : d' = d := Option.some.inj h
    subst e
    exact .tr res
  | slot i =>
    obtain ⟨e, x, hx, hn⟩ := res
    simp only [pk, hx] at h
    cases x with
    | no => exact absurd rfl hn
    | val d' =>
      have e' : d' = d := Option.some.inj h
      subst e'
      obtain ⟨v', e1, e2⟩ := P.rep.val i d' hx
      rw [e] at e1; cases e1
      exact .tr e2
    | own bo l =>
      have e' : PyData.list l = d := Option.some.inj h
      subst e'
      obtain ⟨a, xs, e1, e2, e3⟩ := P.rep.own i bo l hx
      rw [e] at e1; cases e1
      exact .own e2 e3
  | new l =>
    obtain ⟨a, xs, e, ha, ht, hn, h0⟩ := res
    have e' : PyData.list l = d := Option.some.inj h
    subst e' e
    exact .own ha ht
end
end Dv
set_option Elab.async false
set_option linter.all false
set_option maxRecDepth 100000
set_option maxHeartbeats 4000000
namespace Dv
open PySem PySem.Spec PyProof.Rows L2 Gq
theorem inv_frz {X : Cx} {pins : List (Addr × Obj)} {σ : Slots} {H : Hp} {s : Shared} {a : Addr} {xs : List V} (I : Inv X pins σ H s) (h : H a = some (.lst xs)) : ∃ o, Inv X pins σ (upd H a (.frz o (.lst xs))) s := by
  obtain ⟨z, its, n, r, e⟩ := I.hok a _ h
  refine ⟨{ cls := .type "list", data := .seq its.toArray n }, ?_⟩
  have ne : ∀ b u, H b = some u → (∀ ys, u ≠ .lst ys) → b ≠ a := fun b u q d => ne_of q h (d xs)
  have nn : ∀ b, H b = none → b ≠ a := fun b q z => by rw [z, h] at q; cases q
  refine I.step (h' := s.heap) (g' := s.gens) (t' := s.toks) (d' := s.drawn) (ch := []) (fun b hb => absurd hb (by simp)) (fun b o _ _ _ q _ => q) (fun b o _ _ _ q _ => ⟨o.slots, q⟩) (fun b o _ _ q => by rw [upd_ne (nn b q)]; exact q) (fun b o _ q => ⟨o, q⟩)
    (fun b ys q => by rw [upd_ne (ne b _ q fun _ z => by cases z)]; exact q) (fun b o u q => by rw [upd_ne (ne b _ q fun _ z => by cases z)]; exact q) (fun b ps q => ⟨#[], by rw [upd_ne (ne b _ q fun _ z => by cases z), q]; simp⟩) (fun m hm => hm) (fun b u q => ?_) I.bare
  by_cases hb : b = a
  · rw [hb, upd_same] at q
    cases q
    rw [hb]
    exact ⟨e, z, its, n, r, e⟩
  · rw [upd_ne hb] at q
    exact (I.hok b u q).stay (fun _ _ _ y => y) (fun c y => by rw [upd_ne (ne c _ y fun _ z => by cases z)]; exact y) fun c ys y => by rw [upd_ne (ne c _ y fun _ z => by cases z)]; exact y
theorem pe_frz {X : Cx} {e : Expr} {t : TE} (h : PE X e t) : PE X e (fun σ H Q => t σ H fun v H1 => Q v H1 ∨ ∃ a xs, v = .ref a ∧ H1 a = some (.lst xs) ∧ ∀ o, Q v (upd H1 a (.frz o (.lst xs)))) := by
  refine ⟨fun pins s σ H Q I q => thn (h.run pins s σ H _ I q) fun u s1 ⟨v, H1, I1, r, q1⟩ => ?_⟩
  rcases q1 with q1 | ⟨a, xs, rfl, ha, q1⟩
  · exact ⟨v, H1, I1, r, q1⟩
  · obtain ⟨o, I2⟩ := inv_frz I1 ha
    exact ⟨.ref a, _, I2, r, q1 o⟩
def fzn : Rs → Rho → Option (PD × Rho)
  | .val d, ρ => some (d, ρ)
  | .new l, ρ => some (.list l, ρ)
  | .slot i, ρ => match ρ[i]? with
    | some (.val d) => some (d, ρ)
    | some (.own false l) => some (.list l, ρ.set i (.val (.list l)))
    | _ => none
def fVal (f : Ev) : Ev := fun ρ => (f ρ).bind fun p => (fzn p.1 p.2).map fun q => (.val q.1, q.2)
section
variable {K : PySem.W.Frag} {T : List Addr} {ρ ρ1 ρ2 : Rho} {σ : Slots} {H H1 H2 H3 : Hp} {r r2 : Rs} {v v2 : V}
theorem set_get {α : Type} {l : List α} {i j : Nat} {x y : α} (h : (l.set i x)[j]? = some y) : (i = j ∧ y = x) ∨ (i ≠ j ∧ l[j]? = some y) := by
  by_cases e : i = j
  · subst e
    rw [List.getElem?_set] at h
    simp at h
    exact .inl ⟨rfl, h.2.symm⟩
  · rw [List.getElem?_set_ne e] at h
    exact .inr ⟨e, h⟩
theorem RepS.frz {i : Nat} {l : List PD} {a : Addr} {xs : List V} (R : RepS K T ρ σ H) (hi : ρ[i]? = some (.own false l)) (hs : σ[i]? = some (some (.ref a))) (ha : H a = some (.lst xs)) (ht : TrA K H xs l) (o : Obj) :
    RepS K T (ρ.set i (.val (.list l))) σ (upd H a (.frz o (.lst xs))) := by
  have k : KeepH H (upd H a (.frz o (.lst xs))) := KeepH.lst ha
  refine ⟨fun j d e => ?_, fun j bo m e => ?_, fun j j' bo m bo' m' b e1 e2 e3 e4 => ?_, fun P hP => ?_, by rw [List.length_set]; exact R.len⟩
  · rcases set_get e with ⟨rfl, e'⟩ | ⟨ne, e'⟩
    · cases e'
      exact ⟨.ref a, hs, .lst (.inl ⟨o, upd_same⟩) (ht.keep k)⟩
    · obtain ⟨v, h1, h2⟩ := R.val j d e'
      exact ⟨v, h1, h2.keep k⟩
  · rcases set_get e with ⟨rfl, e'⟩ | ⟨ne, e'⟩
    · cases e'
    · obtain ⟨b, ys, h1, h2, h3⟩ := R.own j bo m e'
      have nb : b ≠ a := fun z => by
        rw [z] at h1
        exact ne (R.sep i j false l bo m a hi e' hs h1)
      exact ⟨b, ys, h1, by rw [upd_ne nb]; exact h2, h3.keep k⟩
  · rcases set_get e1 with ⟨_, e⟩ | ⟨_, e1⟩
    · cases e
    · rcases set_get e2 with ⟨_, e⟩ | ⟨_, e2⟩
      · cases e
      · exact R.sep j j' bo m bo' m' b e1 e2 e3 e4
  · exact (R.tabs P hP).lst ha
theorem OwA.of_set {i : Nat} {d : PD} {b : Addr} (h : OwA (ρ.set i (.val d)) σ b) : OwA ρ σ b := by
  obtain ⟨j, bo, l, e1, e2⟩ := h
  rcases set_get e1 with ⟨_, e⟩ | ⟨_, e1⟩
  · cases e
  · exact ⟨j, bo, l, e1, e2⟩
theorem PostE.fzn (P : PostE K T ρ σ H r ρ1 v H1) {d : PD} (h : fzn r ρ1 = some (d, ρ2)) :
    PostE K T ρ σ H (.val d) ρ2 v H1 ∨ ∃ a xs, v = .ref a ∧ H1 a = some (.lst xs) ∧ ∀ o, PostE K T ρ σ H (.val d) ρ2 v (upd H1 a (.frz o (.lst xs))) := by
  have res := P.res
  cases r with
  | val d' =>
    simp only [Dv.fzn, Option.some.injEq, Prod.mk.injEq] at h
    obtain ⟨rfl, rfl⟩ := h
    exact .inl P
  | new l =>
    simp only [Dv.fzn, Option.some.injEq, Prod.mk.injEq] at h
    obtain ⟨rfl, rfl⟩ := h
    obtain ⟨a, xs, e, ha, ht, hn, h0⟩ := res
    refine .inr ⟨a, xs, e, ha, fun o => ?_⟩
    have k : KeepH H1 (upd H1 a (.frz o (.lst xs))) := KeepH.lst ha
    refine ⟨⟨fun j d e => ?_, fun j bo m e => ?_, P.rep.sep, fun Q hQ => ?_, P.rep.len⟩, ⟨fun b u e h1 h2 => ?_, fun b e => ?_, fun Q x => (P.fm.tab Q x).lst ha⟩, P.sub, P.mon, P.bor, ?_⟩
    · obtain ⟨v, h1, h2⟩ := P.rep.val j d e
      exact ⟨v, h1, h2.keep k⟩
    · obtain ⟨b, ys, h1, h2, h3⟩ := P.rep.own j bo m e
      have nb : b ≠ a := fun z => by
        rw [z] at h1
        exact hn ⟨j, bo, m, e, h1⟩
      exact ⟨b, ys, h1, by rw [upd_ne nb]; exact h2, h3.keep k⟩
    · exact (P.rep.tabs Q hQ).lst ha
    · rw [upd_ne (ne_of_none e h0)]
      exact P.fm.keep b u e h1 h2
    · by_cases hb : b = a
      · rw [hb, upd_same] at e; cases e
      · rw [upd_ne hb] at e
        exact P.fm.dom b e
    · show Tr K _ v (.list l)
      rw [e]
      exact .lst (.inl ⟨o, upd_same⟩) (ht.keep k)
  | slot i =>
    obtain ⟨e, x, hx, hn⟩ := res
    simp only [Dv.fzn, hx] at h
    cases x with
    | no => exact absurd rfl hn
    | val d' =>
      simp only [Option.some.injEq, Prod.mk.injEq] at h
      obtain ⟨rfl, rfl⟩ := h
      obtain ⟨v', e1, e2⟩ := P.rep.val i d' hx
      rw [e] at e1; cases e1
      exact .inl ⟨P.rep, P.fm, P.sub, P.mon, P.bor, e2⟩
    | own bo l =>
      cases bo with
      | true => simp at h
      | false =>
        simp only [Option.some.injEq, Prod.mk.injEq] at h
        obtain ⟨rfl, rfl⟩ := h
        obtain ⟨a, xs, e1, e2, e3⟩ := P.rep.own i false l hx
        rw [e] at e1; cases e1
        refine .inr ⟨a, xs, rfl, e2, fun o => ?_⟩
        have own : OwA ρ1 σ a := ⟨i, false, l, hx, e⟩
        refine ⟨P.rep.frz hx e e2 e3 o, ⟨fun b u q h1 h2 => ?_, fun b q => ?_, fun Q x => (P.fm.tab Q x).lst e2⟩, fun b z => P.sub b z.of_set, fun j x q n => ?_, fun j m q => ?_, ?_⟩
        · have nb : b ≠ a := fun z => h2 (z ▸ P.sub a own)
          rw [upd_ne nb]
          exact P.fm.keep b u q h1 h2
        · by_cases hb : b = a
          · rw [hb, upd_same] at q; cases q
          · rw [upd_ne hb] at q
            exact P.fm.dom b q
        · obtain ⟨y, q1, n1⟩ := P.mon j x q n
          by_cases hj : i = j
          · subst hj
            exact ⟨.val (.list l), by rw [List.getElem?_set_self (List.getElem?_eq_some_iff.mp q1).1], fun z => by cases z⟩
          · exact ⟨y, by rw [List.getElem?_set_ne hj]; exact q1, n1⟩
        · obtain ⟨m', q1⟩ := P.bor j m q
          have hj : i ≠ j := fun z => by subst z; rw [hx] at q1; cases q1
          exact ⟨m', by rw [List.getElem?_set_ne hj]; exact q1⟩
        · exact .lst (.inl ⟨o, upd_same⟩) (e3.keep (KeepH.lst e2))
end
section
variable {X : Cx} {T : List Addr} {e a b c : Expr} {f f1 f2 f3 : Ev} {pos : Pos}
theorem s_val (h : SE X T e f) : SE X T e (fVal f) := by
  refine PE.imp (pe_frz h) fun σ H Q ⟨ρ, r, ρ', R, e, q⟩ => ?_
  obtain ⟨⟨r1, ρ1⟩, e1, e2⟩ := Option.bind_eq_some_iff.mp e
  obtain ⟨⟨d, ρ2⟩, e3, e4⟩ := Option.map_eq_some_iff.mp e2
  cases e4
  refine ⟨ρ, r1, ρ1, R, e1, fun v H1 P => ?_⟩
  rcases P.fzn e3 with P' | ⟨a, xs, rfl, ha, P'⟩
  · exact .inl (q v H1 P')
  · exact .inr ⟨a, xs, rfl, ha, fun o => q _ _ (P' o)⟩
def fLoc (i : Nat) : Ev := fun ρ => match ρ[i]? with
  | some (.val d) => some (.val d, ρ)
  | some (.own _ _) => some (.slot i, ρ)
  | _ => none
theorem post_refl {K : PySem.W.Frag} {ρ : Rho} {σ : Slots} {H : Hp} {r : Rs} {v : V} (R : RepS K T ρ σ H) (h : ResOk K ρ σ H H r v) : PostE K T ρ σ H r ρ v H :=
  ⟨R, Fm.refl, fun _ z => z, fun i x e n => ⟨x, e, n⟩, fun i l e => ⟨l, e⟩, h⟩
theorem s_loc (i : Nat) {x : Str} (hN : X.N[i]? = some x := by rfl) (hv : Vis X.env.scope x := by first | exact Or.inl rfl | exact Or.inr (Or.inl rfl) | exact Or.inr (Or.inr rfl)) (hd : (x == ("__debug__" : Str)) = false := by decide)
    (hcd : (x == ("__classdict__" : Str)) = false := by decide) : SE X T (.Name x pos) (fLoc i) := by
  refine PE.imp (pe_var hN hv hd hcd) fun σ H Q ⟨ρ, r, ρ', R, e, q⟩ => ?_
  unfold fLoc at e
  cases hi : ρ[i]? with
  | none => rw [hi] at e; cases e
  | some y =>
    rw [hi] at e
    cases y with
    | no => cases e
    | val d =>
      cases e
      obtain ⟨v, e1, e2⟩ := R.val i d hi
      exact ⟨v, e1, q v H (post_refl R e2)⟩
    | own bo l =>
      cases e
      obtain ⟨a, xs, e1, e2, e3⟩ := R.own i bo l hi
      exact ⟨.ref a, e1, q _ H (post_refl R ⟨e1, _, hi, fun z => by cases z⟩)⟩
def fCst (d : PD) : Ev := fun ρ => some (.val d, ρ)
theorem s_cst {v : V} {d : PD} (h : PE X e (tC v)) (ht : ∀ H, Tr X.K H v d) : SE X T e (fCst d) := by
  refine PE.imp h fun σ H Q ⟨ρ, r, ρ', R, e, q⟩ => ?_
  cases e
  exact q v H (post_refl R (ht H))
theorem s_int {i : Int} {j} : SE X T (.Constant (.int i) j pos) (fCst (.int i)) := s_cst pe_int fun _ => .int i
theorem s_bl {i : Bool} {j} : SE X T (.Constant (.bool i) j pos) (fCst (.bool i)) := s_cst pe_bl fun _ => .bl i
theorem s_non {j} : SE X T (.Constant .none j pos) (fCst .none) := s_cst pe_non fun _ => .non
theorem s_glob {x : Str} {i : Int} {t : Tok} (hg : Gl X x) (hm : X.mg x = some (.int i t)) (hd : (x == ("__debug__" : Str)) = false := by decide) : SE X T (.Name x pos) (fCst (.int i)) := s_cst (pe_glob (v := .int i) hg hm ⟨t, rfl⟩ hd) fun _ => .int i
def NewRes (K : PySem.W.Frag) (H : Hp) (r : Rs) (v : V) (H' : Hp) : Prop := (∀ b o, H b = some o → H' b = some o) ∧ match r with
  | .val d => Tr K H' v d
  | .new l => ∃ a xs, v = .ref a ∧ H' a = some (.lst xs) ∧ TrA K H' xs l ∧ H a = none
  | .slot _ => False
theorem PostE.op {K : PySem.W.Frag} {ρ ρ2 : Rho} {σ : Slots} {H H2 H3 : Hp} {r r3 : Rs} {v v3 : V} (P : PostE K T ρ σ H r ρ2 v H2) (N : NewRes K H2 r3 v3 H3) : PostE K T ρ σ H r3 ρ2 v3 H3 := by
  refine ⟨P.rep.ext N.1, P.fm.trans (Fm.ext N.1) fun b z => .inl (P.sub b z), P.sub, P.mon, P.bor, ?_⟩
  have n := N.2
  cases r3 with
  | val d => exact n
  | new l =>
    obtain ⟨a, xs, e, ha, ht, h0⟩ := n
    refine ⟨a, xs, e, ha, ht, fun z => ?_, P.fm.dom a h0⟩
    obtain ⟨ys, z⟩ := P.rep.ow z
    rw [h0] at z; cases z
  | slot i => exact n.elim
def BinR (K : PySem.W.Frag) (rule : R2) (h : PD → PD → Option Rs) : Prop :=
  ∀ (H : Hp) (x y : V) (d1 d2 : PD) (r : Rs) (Q : VK), Tw K H x d1 → Tw K H y d2 → h d1 d2 = some r → (∀ v H', NewRes K H r v H' → Q v H') → rule x y H Q
def fBin (h : PD → PD → Option Rs) (f1 f2 : Ev) : Ev := fun ρ => (f1 ρ).bind fun p1 => (f2 p1.2).bind fun p2 => (pk p1.1 p2.2).bind fun d1 => (pk p2.1 p2.2).bind fun d2 => (h d1 d2).map fun r => (r, p2.2)
theorem bin_core {rule : R2} {h : PD → PD → Option Rs} (hb : BinR X.K rule h) {σ : Slots} {H : Hp} {Q : VK} (q : tS X.K T (fBin h f1 f2) σ H Q) : tOp rule (tS X.K T f1) (tS X.K T f2) σ H Q := by
  obtain ⟨ρ, r, ρ', R, e, q⟩ := q
  obtain ⟨⟨r1, ρ1⟩, e1, e⟩ := Option.bind_eq_some_iff.mp e
  obtain ⟨⟨r2, ρ2⟩, e2, e⟩ := Option.bind_eq_some_iff.mp e
  obtain ⟨d1, k1, e⟩ := Option.bind_eq_some_iff.mp e
  obtain ⟨d2, k2, e⟩ := Option.bind_eq_some_iff.mp e
  obtain ⟨r', hr, e⟩ := Option.map_eq_some_iff.mp e
  cases e
  refine ⟨ρ, r1, ρ1, R, e1, fun x H1 P1 => ⟨ρ1, r2, ρ2, P1.rep, e2, fun y H2 P2 => ?_⟩⟩
  have P12 := P1.held P2
  exact hb H2 x y d1 d2 r Q (P12.tw k1) (P2.tw k2) hr fun v H3 N => q v H3 (P12.op N)
theorem s_op {op : Operator} {rule : R2} {h : PD → PD → Option Rs} (ho : OpR X (binaryOp op) rule) (hb : BinR X.K rule h) (h1 : SE X T a f1) (h2 : SE X T b f2) : SE X T (.BinOp a op b pos) (fBin h f1 f2) :=
  PE.imp (pe_op ho h1 h2) fun σ H Q q => bin_core hb q
theorem s_cmp {op : CmpOp} {rule : R2} {h : PD → PD → Option Rs} (ho : OpR X (compareOp op) rule) (hb : BinR X.K rule h) (h1 : SE X T a f1) (h2 : SE X T b f2) (hm : behindInMarks op b = false := by with_unfolding_all rfl) : SE X T (.Compare a [op] [b] pos) (fBin h f1 f2) :=
  PE.imp (pe_cmpR ho h1 h2 hm) fun σ H Q q => bin_core hb q
theorem s_ix {rule : R2} {h : PD → PD → Option Rs} (ho : IxR X rule) (hb : BinR X.K rule h) (h1 : SE X T a f1) (h2 : SE X T b f2) (hs : PlainIx b := by exact fun _ _ => rfl) : SE X T (.Subscript a b pos) (fBin h f1 f2) :=
  PE.imp (pe_ix ho h1 h2 hs) fun σ H Q q => bin_core hb q
end
end Dv
set_option Elab.async false
set_option linter.all false
set_option maxRecDepth 100000
set_option maxHeartbeats 4000000
namespace Dv
open PySem PySem.Spec PyProof.Rows L2 Gq
theorem obind {α β : Type} {x : Option α} {f : α → Option β} {b : β} (h : x.bind f = some b) : ∃ a, x = some a ∧ f a = some b := Option.bind_eq_some_iff.mp h
theorem omap {α β : Type} {x : Option α} {f : α → β} {b : β} (h : x.map f = some b) : ∃ a, x = some a ∧ f a = b := Option.map_eq_some_iff.mp h
abbrev Et := Rho → Option (Bool × Rho)
abbrev Ea := Rho → Option (List PD × Rho)
structure PostT (K : PySem.W.Frag) (T : List Addr) (ρ : Rho) (σ : Slots) (H : Hp) (ρ' : Rho) (H' : Hp) : Prop where
  rep : RepS K T ρ' σ H'
  fm : Fm T ρ σ H H'
  sub : ∀ b, OwA ρ' σ b → OwA ρ σ b
  mon : ∀ (i : Nat) (x : Slt), ρ[i]? = some x → x ≠ .no → ∃ y, ρ'[i]? = some y ∧ y ≠ .no
  bor : ∀ (i : Nat) (l : List PD), ρ[i]? = some (.own true l) → ∃ l', ρ'[i]? = some (.own true l')
section
variable {K : PySem.W.Frag} {T : List Addr} {ρ ρ1 ρ2 : Rho} {σ : Slots} {H H1 H2 : Hp} {r : Rs} {v : V}
theorem PostE.toT (P : PostE K T ρ σ H r ρ1 v H1) : PostT K T ρ σ H ρ1 H1 := ⟨P.rep, P.fm, P.sub, P.mon, P.bor⟩
theorem PostT.toE (P : PostT K T ρ σ H ρ1 H1) (h : ResOk K ρ1 σ H H1 r v) : PostE K T ρ σ H r ρ1 v H1 := ⟨P.rep, P.fm, P.sub, P.mon, P.bor, h⟩
theorem PostT.refl (R : RepS K T ρ σ H) : PostT K T ρ σ H ρ H := ⟨R, Fm.refl, fun _ z => z, fun i x e n => ⟨x, e, n⟩, fun i l e => ⟨l, e⟩⟩
theorem PostT.trans (P : PostT K T ρ σ H ρ1 H1) (P2 : PostT K T ρ1 σ H1 ρ2 H2) : PostT K T ρ σ H ρ2 H2 :=
  ⟨P2.rep, P.fm.trans P2.fm fun b z => .inl (P.sub b z), fun b z => P.sub b (P2.sub b z), fun i x e n => (let ⟨y, e1, n1⟩ := P.mon i x e n; P2.mon i y e1 n1), fun i l e => (let ⟨l1, e1⟩ := P.bor i l e; P2.bor i l1 e1)⟩
theorem PostT.keep (R : RepS K T ρ σ H) (P : PostT K T ρ σ H ρ1 H1) : KeepH H H1 := R.keepOf P.fm
theorem PostT.dom (P : PostT K T ρ σ H ρ1 H1) {a : Addr} (h : H1 a = none) : H a = none := P.fm.dom a h
theorem PostT.then (P : PostT K T ρ σ H ρ1 H1) (P2 : PostE K T ρ1 σ H1 r ρ2 v H2) : PostE K T ρ σ H r ρ2 v H2 := by
  have q := P.trans P2.toT
  refine q.toE ?_
  have res := P2.res
  cases r with
  | val d => exact res
  | slot i => exact res
  | new l =>
    obtain ⟨a, xs, e, ha, ht, hn, h0⟩ := res
    exact ⟨a, xs, e, ha, ht, hn, P.fm.dom a h0⟩
end
def tT (K : PySem.W.Frag) (T : List Addr) (f : Et) : TT := fun σ H Q => ∃ ρ b ρ', RepS K T ρ σ H ∧ f ρ = some (b, ρ') ∧ ∀ H', PostT K T ρ σ H ρ' H' → Q b H'
def ST (X : Cx) (T : List Addr) (e : Expr) (f : Et) : Prop := PT X e (tT X.K T f)
def SW (X : Cx) (T : List Addr) (e : Expr) (f : Et) : Prop := PW X e (tT X.K T f)
theorem PW.imp {X : Cx} {e : Expr} {t t' : TT} (h : PW X e t') (w : ∀ σ H Q, t σ H Q → t' σ H Q) : PW X e t := ⟨fun wh pins s σ H Q I q => h.run wh pins s σ H Q I (w σ H Q q)⟩
def tA (K : PySem.W.Frag) (T : List Addr) (f : Ea) : TA := fun σ H Q => ∃ ρ ds ρ', RepS K T ρ σ H ∧ f ρ = some (ds, ρ') ∧ ∀ vs H', PostT K T ρ σ H ρ' H' → TrA K H' vs ds → Q vs H'
def SA (X : Cx) (T : List Addr) (es : List Expr) (f : Ea) : Prop := PA X es (tA X.K T f)
theorem PA.imp {X : Cx} {e : List Expr} {t t' : TA} (h : PA X e t') (w : ∀ σ H Q, t σ H Q → t' σ H Q) : PA X e t := ⟨fun pos pins s σ H Q I q => h.run pos pins s σ H Q I (w σ H Q q)⟩
def fTst (f : Ev) : Et := fun ρ => (f ρ).bind fun p => match p.1 with
  | .val (.bool b) => some (b, p.2)
  | _ => none
section
variable {X : Cx} {T : List Addr} {e a b c : Expr} {es : List Expr} {f f1 f2 f3 : Ev} {g g1 g2 : Et} {fs : Ea} {pos : Pos}
theorem tst_of {σ : Slots} {H : Hp} {Q : Bool → Hp → Prop} (q : tT X.K T (fTst f) σ H Q) : tS X.K T f σ H fun v H1 => ∃ k, v = .bl k ∧ Q k H1 := by
  obtain ⟨ρ, b, ρ', R, e, q⟩ := q
  obtain ⟨⟨r, ρ1⟩, e1, e2⟩ := obind e
  refine ⟨ρ, r, ρ1, R, e1, fun v H1 P => ?_⟩
  cases r with
  | val d =>
    cases d with
    | bool k =>
      simp only [Option.some.injEq, Prod.mk.injEq] at e2
      obtain ⟨rfl, rfl⟩ := e2
      have res : Tr X.K H1 v (.bool k) := P.res
      cases res
      exact ⟨k, rfl, q H1 P.toT⟩
    | _ => simp at e2
  | _ => simp at e2
theorem st_val (h : SE X T e f) (he : ∀ whole, isTrue e X.env whole = (do let v ← whole; standAt e.pos; holding [v] (truthy v)) := by intro _; rfl) : ST X T e (fTst f) :=
  PT.imp (pt_val h he) fun σ H Q q => tst_of q
theorem st_cmp {op : CmpOp} {rule : R2} {h : PD → PD → Option Rs} (ho : OpR X (compareOp op) rule) (hb : BinR X.K rule h) (h1 : SE X T a f1) (h2 : SE X T b f2) (hm : behindInMarks op b = false := by with_unfolding_all rfl) : ST X T (.Compare a [op] [b] pos) (fTst (fBin h f1 f2)) :=
  PT.imp (pt_cmpR ho h1 h2 hm) fun σ H Q q => bin_core hb (tst_of q)
def gNot (g : Et) : Et := fun ρ => (g ρ).map fun p => (!p.1, p.2)
theorem st_not (h : ST X T a g) : ST X T (.UnaryOp .Not a pos) (gNot g) := by
  refine PT.imp (pt_not h) fun σ H Q ⟨ρ, b, ρ', R, e, q⟩ => ?_
  obtain ⟨⟨k, ρ1⟩, e1, e2⟩ := omap e
  cases e2
  exact ⟨ρ, k, _, R, e1, fun H' P => q H' P⟩
def gAnd (g1 g2 : Et) : Et := fun ρ => (g1 ρ).bind fun p => if p.1 = true then g2 p.2 else some (false, p.2)
def gOr (g1 g2 : Et) : Et := fun ρ => (g1 ρ).bind fun p => if p.1 = true then some (true, p.2) else g2 p.2
theorem sw_and1 (h : ST X T a g) : SW X T (.BoolOp .And [a] pos) g := pw_and1 h
theorem sw_or1 (h : ST X T a g) : SW X T (.BoolOp .Or [a] pos) g := pw_or1 h
theorem sw_and {rest : List Expr} (h1 : ST X T a g1) (h2 : SW X T (.BoolOp .And (b :: rest) pos) g2) : SW X T (.BoolOp .And (a :: b :: rest) pos) (gAnd g1 g2) := by
  refine PW.imp (pw_and h1 h2) fun σ H Q ⟨ρ, k, ρ', R, e, q⟩ => ?_
  obtain ⟨⟨k1, ρ1⟩, e1, e2⟩ := obind e
  refine ⟨ρ, k1, ρ1, R, e1, fun H1 P1 => ?_⟩
  cases k1 with
  | true => exact ⟨ρ1, k, ρ', P1.rep, by simpa using e2, fun H2 P2 => q H2 (P1.trans P2)⟩
  | false =>
    simp only [Bool.false_eq_true, if_false, Option.some.injEq, Prod.mk.injEq] at e2
    obtain ⟨rfl, rfl⟩ := e2
    exact q H1 P1
theorem sw_or {rest : List Expr} (h1 : ST X T a g1) (h2 : SW X T (.BoolOp .Or (b :: rest) pos) g2) : SW X T (.BoolOp .Or (a :: b :: rest) pos) (gOr g1 g2) := by
  refine PW.imp (pw_or h1 h2) fun σ H Q ⟨ρ, k, ρ', R, e, q⟩ => ?_
  obtain ⟨⟨k1, ρ1⟩, e1, e2⟩ := obind e
  refine ⟨ρ, k1, ρ1, R, e1, fun H1 P1 => ?_⟩
  cases k1 with
  | false => exact ⟨ρ1, k, ρ', P1.rep, by simpa using e2, fun H2 P2 => q H2 (P1.trans P2)⟩
  | true =>
    simp only [if_true, Option.some.injEq, Prod.mk.injEq] at e2
    obtain ⟨rfl, rfl⟩ := e2
    exact q H1 P1
theorem st_w (h : SW X T e g) : ST X T e g := PW.pt h
def fAnd (f1 f2 : Ev) : Ev := fun ρ => (f1 ρ).bind fun p => match p.1 with
  | .val (.bool b) => if b = true then f2 p.2 else some (.val (.bool false), p.2)
  | _ => none
def fOr (f1 f2 : Ev) : Ev := fun ρ => (f1 ρ).bind fun p => match p.1 with
  | .val (.bool b) => if b = true then some (.val (.bool true), p.2) else f2 p.2
  | _ => none
def fNot (f : Ev) : Ev := fun ρ => (f ρ).bind fun p => match p.1 with
  | .val (.bool b) => some (.val (.bool (!b)), p.2)
  | _ => none
theorem s_one {op} (h : SE X T a f) : SE X T (.BoolOp op [a] pos) f := pe_one h
theorem s_and {rest : List Expr} (h1 : SE X T a f1) (h2 : SE X T (.BoolOp .And (b :: rest) pos) f2) : SE X T (.BoolOp .And (a :: b :: rest) pos) (fAnd f1 f2) := by
  refine PE.imp (pe_and h1 h2) fun σ H Q ⟨ρ, r, ρ', R, e, q⟩ => ?_
  obtain ⟨⟨r1, ρ1⟩, e1, e2⟩ := obind e
  refine ⟨ρ, r1, ρ1, R, e1, fun v H1 P1 => ?_⟩
  cases r1 with
  | val d =>
    cases d with
    | bool k =>
      have res : Tr X.K H1 v (.bool k) := P1.res
      cases res
      refine ⟨k, rfl, ?_⟩
      cases k with
      | true => exact ⟨ρ1, r, ρ', P1.rep, by simpa using e2, fun w H2 P2 => q w H2 (P1.toT.then P2)⟩
      | false =>
        simp only [Bool.false_eq_true, if_false, Option.some.injEq, Prod.mk.injEq] at e2
        obtain ⟨rfl, rfl⟩ := e2
        exact q _ H1 (P1.toT.toE (.bl false))
    | _ => simp at e2
  | _ => simp at e2
theorem s_not (h1 : SE X T a f) : SE X T (.UnaryOp .Not a pos) (fNot f) := by
  refine PE.imp (pe_not h1) fun σ H Q ⟨ρ, r, ρ', R, e, q⟩ => ?_
  obtain ⟨⟨r1, ρ1⟩, e1, e2⟩ := obind e
  refine ⟨ρ, r1, ρ1, R, e1, fun v H1 P1 => ?_⟩
  cases r1 with
  | val d =>
    cases d with
    | bool k =>
      have res : Tr X.K H1 v (.bool k) := P1.res
      cases res
      simp only [Option.some.injEq, Prod.mk.injEq] at e2
      obtain ⟨rfl, rfl⟩ := e2
      exact ⟨k, rfl, q _ H1 (P1.toT.toE (.bl _))⟩
    | _ => simp at e2
  | _ => simp at e2
def fIte (g : Et) (f1 f2 : Ev) : Ev := fun ρ => (g ρ).bind fun p => if p.1 = true then f1 p.2 else f2 p.2
theorem s_ite (hc : ST X T c g) (h1 : SE X T a f1) (h2 : SE X T b f2) : SE X T (.IfExp c a b pos) (fIte g f1 f2) := by
  refine PE.imp (pe_ifExp hc h1 h2) fun σ H Q ⟨ρ, r, ρ', R, e, q⟩ => ?_
  obtain ⟨⟨k, ρ1⟩, e1, e2⟩ := obind e
  refine ⟨ρ, k, ρ1, R, e1, fun H1 P1 => ?_⟩
  cases k with
  | true => exact ⟨ρ1, r, ρ', P1.rep, by simpa using e2, fun w H2 P2 => q w H2 (P1.then P2)⟩
  | false => exact ⟨ρ1, r, ρ', P1.rep, by simpa using e2, fun w H2 P2 => q w H2 (P1.then P2)⟩
def aNil : Ea := fun ρ => some ([], ρ)
def aCons (f : Ev) (fs : Ea) : Ea := fun ρ => (fVal f ρ).bind fun p => match p.1 with
  | .val d => (fs p.2).map fun q => (d :: q.1, q.2)
  | _ => none
theorem sa_nil : SA X T [] aNil := by
  refine PA.imp pa_nil fun σ H Q ⟨ρ, ds, ρ', R, e, q⟩ => ?_
  cases e
  exact q [] H (PostT.refl R) .nil
theorem sa_cons (h : SE X T e f) (hs : SA X T es fs) (hst : starEach (e :: es) X.env = (false, eval e X.env) :: starEach es X.env := by rfl) : SA X T (e :: es) (aCons f fs) := by
  refine PA.imp (pa_cons (s_val h) hs hst) fun σ H Q ⟨ρ, ds, ρ', R, e, q⟩ => ?_
  obtain ⟨⟨r1, ρ1⟩, e1, e2⟩ := obind e
  refine ⟨ρ, r1, ρ1, R, e1, fun v H1 P1 => ?_⟩
  cases r1 with
  | val d =>
    obtain ⟨⟨ds2, ρ2⟩, e3, e4⟩ := omap e2
    cases e4
    have res : Tr X.K H1 v d := P1.res
    exact ⟨ρ1, ds2, _, P1.rep, e3, fun vs H2 P2 t => q (v :: vs) H2 (P1.toT.trans P2) (.cons (res.keep (P2.keep P1.rep)) t)⟩
  | slot i => simp at e2
  | new l => simp at e2
def fTup (fs : Ea) : Ev := fun ρ => (fs ρ).bind fun p => if p.1.length ≤ sizeLine then some (.val (.tuple p.1), p.2) else none
def fLst (fs : Ea) : Ev := fun ρ => (fs ρ).bind fun p => if p.1.length ≤ sizeLine then some (.new p.1, p.2) else none
theorem s_tup {x1} (h : SA X T es fs) : SE X T (.Tuple es x1 pos) (fTup fs) := by
  refine PE.imp (pe_tupF h) fun σ H Q ⟨ρ, r, ρ', R, e, q⟩ => ?_
  obtain ⟨⟨ds, ρ1⟩, e1, e2⟩ := obind e
  by_cases hl : ds.length ≤ sizeLine
  · simp only [hl, if_true, Option.some.injEq, Prod.mk.injEq] at e2
    obtain ⟨rfl, rfl⟩ := e2
    refine ⟨ρ, ds, ρ1, R, e1, fun vs H1 P1 t => ⟨by rw [t.len]; exact hl, fun p o hp ho => ?_⟩⟩
    have E := P1.toE (r := .val .none) (v := .non) .non
    refine q _ _ (E.op (r3 := .val (.tuple ds)) ⟨fun b o e => by rw [upd_ne (ne_of_none e hp)]; exact e, ?_⟩)
    exact .tup (.inl ⟨o, upd_same, ho⟩) (t.keep (KeepH.new hp))
  · simp only [hl, if_false] at e2
    cases e2
theorem s_lst (h : SA X T es fs) : SE X T (.List es pos) (fLst fs) := by
  refine PE.imp (pe_lst h) fun σ H Q ⟨ρ, r, ρ', R, e, q⟩ => ?_
  obtain ⟨⟨ds, ρ1⟩, e1, e2⟩ := obind e
  by_cases hl : ds.length ≤ sizeLine
  · simp only [hl, if_true, Option.some.injEq, Prod.mk.injEq] at e2
    obtain ⟨rfl, rfl⟩ := e2
    refine ⟨ρ, ds, ρ1, R, e1, fun vs H1 P1 t => ⟨by rw [t.len]; exact hl, fun p hp => ?_⟩⟩
    have E := P1.toE (r := .val .none) (v := .non) .non
    refine q _ _ (E.op (r3 := .new ds) ⟨fun b o e => by rw [upd_ne (ne_of_none e hp)]; exact e, p, vs, rfl, upd_same, t.keep (KeepH.new hp), hp⟩)
  · simp only [hl, if_false] at e2
    cases e2
def UnR1 (K : PySem.W.Frag) (r : List V → Hp → VK → Prop) (h : PD → Option Rs) : Prop :=
  ∀ (H : Hp) (x : V) (d : PD) (rs : Rs) (Q : VK), Tw K H x d → h d = some rs → (∀ v H', NewRes K H rs v H' → Q v H') → r [x] H Q
def fUn (h : PD → Option Rs) (f : Ev) : Ev := fun ρ => (f ρ).bind fun p => (pk p.1 p.2).bind fun d => (h d).map fun r => (r, p.2)
theorem un_core {r : List V → Hp → VK → Prop} {h : PD → Option Rs} (hb : UnR1 X.K r h) {σ : Slots} {H : Hp} {Q : VK} (q : tS X.K T (fUn h f) σ H Q) : tCB r (tCons (tS X.K T f) tNil) σ H Q := by
  obtain ⟨ρ, rs, ρ', R, e, q⟩ := q
  obtain ⟨⟨r1, ρ1⟩, e1, e⟩ := obind e
  obtain ⟨d, k, e⟩ := obind e
  obtain ⟨r', hr, e⟩ := omap e
  cases e
  exact ⟨ρ, r1, _, R, e1, fun v H1 P => hb H1 v d rs Q (P.tw k) hr fun w H2 N => q w H2 (P.op N)⟩
theorem s_callB1 {x : Str} {p : Pos} {id : String} {r : List V → Hp → VK → Prop} {h : PD → Option Rs} (hc : CallR X (.builtin id) r) (hb : UnR1 X.K r h) (hg : Gl X x) (hm : X.mg x = none) (hv : bootBuiltins x = some (.builtin id)) (h1 : SE X T e f)
    (hn : x ≠ "__name__" := by decide) (hdb : (x == ("__debug__" : Str)) = false := by decide) (he : starEach [e] X.env = (false, eval e X.env) :: starEach [] X.env := by rfl) : SE X T (.Call (.Name x p) [e] [] pos) (fUn h f) :=
  PE.imp (pe_callB hc hg hm hv (pa_cons h1 pa_nil he) hn hdb he (by rfl)) fun σ H Q q => un_core hb q
theorem s_callTy1 {x : Str} {p : Pos} {id : String} {r : List V → Hp → VK → Prop} {h : PD → Option Rs} (hc : CallR X (.type id) r) (hb : UnR1 X.K r h) (hg : Gl X x) (hm : X.mg x = none) (hv : bootBuiltins x = some (.type id)) (h1 : SE X T e f)
    (hn : x ≠ "__name__" := by decide) (hdb : (x == ("__debug__" : Str)) = false := by decide) (he : starEach [e] X.env = (false, eval e X.env) :: starEach [] X.env := by rfl) : SE X T (.Call (.Name x p) [e] [] pos) (fUn h f) :=
  PE.imp (pe_callTy hc hg hm hv (pa_cons h1 pa_nil he) hn hdb he (by rfl)) fun σ H Q q => un_core hb q
end
def hLen : PD → Option Rs
  | .list l => some (.val (.int l.length))
  | .tuple l => some (.val (.int l.length))
  | _ => none
def hTuple : PD → Option Rs
  | .list l => some (.val (.tuple l))
  | .tuple l => some (.val (.tuple l))
  | _ => none
def hList : PD → Option Rs
  | .list l => some (.new l)
  | .tuple l => some (.new l)
  | _ => none
def hInt : PD → Option Rs
  | .int i => some (.val (.int i))
  | .bool b => some (.val (.int (if b then 1 else 0)))
  | _ => none
section
variable {X : Cx} {K : PySem.W.Frag}
theorem Tw.seq {H : Hp} {v : V} {l : List PD} (h : Tw K H v (.list l)) : ∃ a xs, v = .ref a ∧ SqL K H a xs ∧ TrA K H xs l := by
  cases h with
  | tr h =>
    cases h with
    | lst h t => exact ⟨_, _, rfl, h.sql, t⟩
  | own h t => exact ⟨_, _, rfl, SqL.of h, t⟩
theorem Tw.tseq {H : Hp} {v : V} {l : List PD} (h : Tw K H v (.tuple l)) : ∃ a xs, v = .ref a ∧ SqTF K H a xs ∧ TrA K H xs l := by
  cases h with
  | tr h =>
    cases h with
    | tup h t => exact ⟨_, _, rfl, h, t⟩
theorem Tw.int {H : Hp} {v : V} {i : Int} (h : Tw K H v (.int i)) : v = .int i := by
  cases h with
  | tr h => cases h; rfl
theorem Tw.bool {H : Hp} {v : V} {i : Bool} (h : Tw K H v (.bool i)) : v = .bl i := by
  cases h with
  | tr h => cases h; rfl
theorem Tw.none {H : Hp} {v : V} (h : Tw K H v .none) : v = .non := by
  cases h with
  | tr h => cases h; rfl
theorem Tw.str {H : Hp} {v : V} {x : Str} (h : Tw K H v (.str x)) : v = .str x := by
  cases h with
  | tr h => cases h; rfl
theorem nr_val {H : Hp} {d : PD} {v : V} (h : Tr K H v d) : NewRes K H (.val d) v H := ⟨fun _ _ e => e, h⟩
theorem nr_tup {H : Hp} {p : Addr} {o : Obj} {vs : List V} {l : List PD} (hp : H p = none) (ho : o.dict = none) (t : TrA K H vs l) : NewRes K H (.val (.tuple l)) (.ref p) (upd H p (.frz o (.tup vs))) :=
  ⟨fun b o e => by rw [upd_ne (ne_of_none e hp)]; exact e, .tup (.inl ⟨o, upd_same, ho⟩) (t.keep (KeepH.new hp))⟩
theorem nr_new {H : Hp} {p : Addr} {vs : List V} {l : List PD} (hp : H p = none) (t : TrA K H vs l) : NewRes K H (.new l) (.ref p) (upd H p (.lst vs)) :=
  ⟨fun b o e => by rw [upd_ne (ne_of_none e hp)]; exact e, p, vs, rfl, upd_same, t.keep (KeepH.new hp), hp⟩
theorem u_len : UnR1 K (fun xs H Q => ∃ p ys, xs = [.ref p] ∧ (SqL K H p ys ∨ SqT K H p ys) ∧ Q (.int ys.length) H) hLen := by
  intro H x d rs Q t e q
  cases d with
  | list l =>
    cases e
    obtain ⟨a, xs, rfl, h, t⟩ := t.seq
    exact ⟨a, xs, rfl, .inl h, q _ _ (nr_val (by rw [t.len]; exact .int _))⟩
  | tuple l =>
    cases e
    obtain ⟨a, xs, rfl, h, t⟩ := t.tseq
    exact ⟨a, xs, rfl, .inr h.sqt, q _ _ (nr_val (by rw [t.len]; exact .int _))⟩
  | _ => cases e
theorem u_tuple : UnR1 K (rTupF K) hTuple := by
  intro H x d rs Q t e q
  cases d with
  | list l =>
    cases e
    obtain ⟨a, xs, rfl, h, t⟩ := t.seq
    exact ⟨a, xs, rfl, .inl ⟨h, fun p o hp ho => q _ _ (nr_tup hp ho t)⟩⟩
  | tuple l =>
    cases e
    obtain ⟨a, xs, rfl, h, t⟩ := t.tseq
    exact ⟨a, xs, rfl, .inr ⟨h.sqt, q _ _ (nr_val (.tup h t))⟩⟩
  | _ => cases e
theorem u_list : UnR1 K (fun xs H Q => ∃ p ys, xs = [.ref p] ∧ (SqL K H p ys ∨ SqT K H p ys) ∧ ∀ l, H l = none → Q (.ref l) (upd H l (.lst ys))) hList := by
  intro H x d rs Q t e q
  cases d with
  | list l =>
    cases e
    obtain ⟨a, xs, rfl, h, t⟩ := t.seq
    exact ⟨a, xs, rfl, .inl h, fun p hp => q _ _ (nr_new hp t)⟩
  | tuple l =>
    cases e
    obtain ⟨a, xs, rfl, h, t⟩ := t.tseq
    exact ⟨a, xs, rfl, .inr h.sqt, fun p hp => q _ _ (nr_new hp t)⟩
  | _ => cases e
theorem u_int : UnR1 K (fun xs H Q => (∃ i, xs = [.int i] ∧ Q (.int i) H) ∨ ∃ k, xs = [.bl k] ∧ Q (.int (if k then 1 else 0)) H) hInt := by
  intro H x d rs Q t e q
  cases d with
  | int i =>
    cases e
    exact .inl ⟨i, by rw [t.int], q _ _ (nr_val (.int i))⟩
  | bool b =>
    cases e
    exact .inr ⟨b, by rw [t.bool], q _ _ (nr_val (.int _))⟩
  | _ => cases e
end
end Dv
set_option Elab.async false
set_option linter.all false
set_option maxRecDepth 100000
set_option maxHeartbeats 4000000
namespace Dv
open PySem PySem.Spec PyProof.Rows L2 Gq
inductive Fw where
  | nx (ρ : Rho)
  | rt (d : PD) (ρ : Rho)
  | bk (ρ : Rho)
  | ct (ρ : Rho)
abbrev Es := Rho → Option Fw
structure PostS (K : PySem.W.Frag) (T : List Addr) (ρ : Rho) (σ : Slots) (H : Hp) (ρ' : Rho) (σ' : Slots) (H' : Hp) : Prop where
  rep : RepS K T ρ' σ' H'
  fm : Fm T ρ σ H H'
  sub : ∀ b, OwA ρ' σ' b → OwA ρ σ b ∨ H b = none
  len : σ'.length = σ.length
  mon : ∀ (i : Nat) (x : Slt), ρ[i]? = some x → x ≠ .no → ∃ y, ρ'[i]? = some y ∧ y ≠ .no
  bor : ∀ (i : Nat) (l : List PD), ρ[i]? = some (.own true l) → (∃ l', ρ'[i]? = some (.own true l')) ∧ σ'[i]? = σ[i]?
section
variable {K : PySem.W.Frag} {T : List Addr} {ρ ρ1 ρ2 : Rho} {σ σ1 σ2 : Slots} {H H1 H2 : Hp} {r : Rs} {v : V} {d : PD}
theorem PostS.refl (R : RepS K T ρ σ H) : PostS K T ρ σ H ρ σ H := ⟨R, Fm.refl, fun _ z => .inl z, rfl, fun i x e n => ⟨x, e, n⟩, fun i l e => ⟨⟨l, e⟩, rfl⟩⟩
theorem PostT.toS (P : PostT K T ρ σ H ρ1 H1) : PostS K T ρ σ H ρ1 σ H1 := ⟨P.rep, P.fm, fun b z => .inl (P.sub b z), rfl, P.mon, fun i l e => ⟨P.bor i l e, rfl⟩⟩
theorem PostS.trans (P : PostS K T ρ σ H ρ1 σ1 H1) (P2 : PostS K T ρ1 σ1 H1 ρ2 σ2 H2) : PostS K T ρ σ H ρ2 σ2 H2 := by
  refine ⟨P2.rep, P.fm.trans P2.fm P.sub, fun b z => ?_, P2.len.trans P.len, fun i x e n => (let ⟨y, e1, n1⟩ := P.mon i x e n; P2.mon i y e1 n1), fun i l e => ?_⟩
  · rcases P2.sub b z with z | z
    · exact P.sub b z
    · exact .inr (P.fm.dom b z)
  · obtain ⟨⟨l1, e1⟩, q1⟩ := P.bor i l e
    obtain ⟨e2, q2⟩ := P2.bor i l1 e1
    exact ⟨e2, q2.trans q1⟩
theorem RepS.put {i : Nat} (R : RepS K T ρ σ H) (h : Tr K H v d) : RepS K T (ρ.set i (.val d)) (σ.set i (some v)) H := by
  refine ⟨fun j e q => ?_, fun j bo l q => ?_, fun j j' bo l bo' l' a q1 q2 e1 e2 => ?_, R.tabs, by rw [List.length_set, List.length_set]; exact R.len⟩
  · rcases set_get q with ⟨rfl, q'⟩ | ⟨ne, q'⟩
    · cases q'
      have hl : i < ρ.length := by
        have := (List.getElem?_eq_some_iff.mp q).1
        rwa [List.length_set] at this
      exact ⟨v, by rw [List.getElem?_set_self (by rw [← R.len]; exact hl)], h⟩
    · obtain ⟨w, h1, h2⟩ := R.val j e q'
      exact ⟨w, by rw [List.getElem?_set_ne ne]; exact h1, h2⟩
  · rcases set_get q with ⟨_, q'⟩ | ⟨ne, q'⟩
    · cases q'
    · obtain ⟨b, ys, h1, h2, h3⟩ := R.own j bo l q'
      exact ⟨b, ys, by rw [List.getElem?_set_ne ne]; exact h1, h2, h3⟩
  · rcases set_get q1 with ⟨_, q'⟩ | ⟨n1, q1⟩
    · cases q'
    · rcases set_get q2 with ⟨_, q'⟩ | ⟨n2, q2⟩
      · cases q'
      · rw [List.getElem?_set_ne n1] at e1
        rw [List.getElem?_set_ne n2] at e2
        exact R.sep j j' bo l bo' l' a q1 q2 e1 e2
theorem OwA.of_put {i : Nat} {b : Addr} {w : Option V} (h : OwA (ρ.set i (.val d)) (σ.set i w) b) : OwA ρ σ b := by
  obtain ⟨j, bo, l, e1, e2⟩ := h
  rcases set_get e1 with ⟨_, e⟩ | ⟨ne, e1⟩
  · cases e
  · rw [List.getElem?_set_ne ne] at e2
    exact ⟨j, bo, l, e1, e2⟩
def wr (ρ : Rho) (i : Nat) : Bool := match ρ[i]? with
  | some (.own true _) => false
  | _ => true
theorem wr_ne {i j : Nat} {l : List PD} (h : wr ρ i = true) (e : ρ[j]? = some (.own true l)) : i ≠ j := fun z => by
  subst z
  unfold wr at h
  rw [e] at h
  cases h
theorem mon_set {i : Nat} {y : Slt} (hy : y ≠ .no) (h : ∀ (i : Nat) (x : Slt), ρ[i]? = some x → x ≠ .no → ∃ y, ρ1[i]? = some y ∧ y ≠ .no) : ∀ (j : Nat) (x : Slt), ρ[j]? = some x → x ≠ .no → ∃ z, (ρ1.set i y)[j]? = some z ∧ z ≠ .no := fun j x e n => by
  obtain ⟨z, e1, n1⟩ := h j x e n
  by_cases hj : i = j
  · subst hj
    exact ⟨y, by rw [List.getElem?_set_self (List.getElem?_eq_some_iff.mp e1).1], hy⟩
  · exact ⟨z, by rw [List.getElem?_set_ne hj]; exact e1, n1⟩
theorem PostS.put {i : Nat} (P : PostS K T ρ σ H ρ1 σ1 H1) (hw : wr ρ1 i = true) (h : Tr K H1 v d) : PostS K T ρ σ H (ρ1.set i (.val d)) (σ1.set i (some v)) H1 := by
  refine ⟨P.rep.put h, P.fm, fun b z => P.sub b z.of_put, by rw [List.length_set]; exact P.len, mon_set (fun z => by cases z) P.mon, fun j l e => ?_⟩
  obtain ⟨⟨l1, e1⟩, q1⟩ := P.bor j l e
  have ne := wr_ne hw e1
  exact ⟨⟨l1, by rw [List.getElem?_set_ne ne]; exact e1⟩, by rw [List.getElem?_set_ne ne]; exact q1⟩
theorem PostS.putNew {i : Nat} {l : List PD} {a : Addr} {xs : List V} (P : PostS K T ρ σ H ρ1 σ1 H1) (hw : wr ρ1 i = true) (ha : H1 a = some (.lst xs)) (ht : TrA K H1 xs l) (hn : ¬ OwA ρ1 σ1 a) (h0 : H a = none) :
    PostS K T ρ σ H (ρ1.set i (.own false l)) (σ1.set i (some (.ref a))) H1 := by
  have R := P.rep
  have own_of : ∀ {b : Addr}, OwA (ρ1.set i (.own false l)) (σ1.set i (some (.ref a))) b → b = a ∨ OwA ρ1 σ1 b := fun {b} z => by
    obtain ⟨j, bo, m, e1, e2⟩ := z
    rcases set_get e1 with ⟨rfl, e⟩ | ⟨ne, e1⟩
    · rcases set_get e2 with ⟨_, e'⟩ | ⟨ne, _⟩
      · cases e'; exact .inl rfl
      · exact absurd rfl ne
    · rw [List.getElem?_set_ne ne] at e2
      exact .inr ⟨j, bo, m, e1, e2⟩
  refine ⟨⟨fun j e q => ?_, fun j bo m q => ?_, fun j j' bo m bo' m' b q1 q2 e1 e2 => ?_, R.tabs, by rw [List.length_set, List.length_set]; exact R.len⟩, P.fm, fun b z => ?_, by rw [List.length_set]; exact P.len, mon_set (fun z => by cases z) P.mon, fun j m e => ?_⟩
  · rcases set_get q with ⟨_, q'⟩ | ⟨ne, q'⟩
    · cases q'
    · obtain ⟨w, h1, h2⟩ := R.val j e q'
      exact ⟨w, by rw [List.getElem?_set_ne ne]; exact h1, h2⟩
  · rcases set_get q with ⟨rfl, q'⟩ | ⟨ne, q'⟩
    · cases q'
      have hl : i < ρ1.length := by
        have := (List.getElem?_eq_some_iff.mp q).1
        rwa [List.length_set] at this
      exact ⟨a, xs, by rw [List.getElem?_set_self (by rw [← R.len]; exact hl)], ha, ht⟩
    · obtain ⟨b, ys, h1, h2, h3⟩ := R.own j bo m q'
      exact ⟨b, ys, by rw [List.getElem?_set_ne ne]; exact h1, h2, h3⟩
  · rcases set_get q1 with ⟨rfl, q'⟩ | ⟨n1, q1⟩
    · rcases set_get q2 with ⟨rfl, q''⟩ | ⟨n2, q2⟩
      · rfl
      · exfalso
        rcases set_get e1 with ⟨_, e'⟩ | ⟨ne, _⟩
        · cases e'
          rw [List.getElem?_set_ne n2] at e2
          exact hn ⟨j', bo', m', q2, e2⟩
        · exact absurd rfl ne
    · rcases set_get q2 with ⟨rfl, q''⟩ | ⟨n2, q2⟩
      · exfalso
        rcases set_get e2 with ⟨_, e'⟩ | ⟨ne, _⟩
        · cases e'
          rw [List.getElem?_set_ne n1] at e1
          exact hn ⟨j, bo, m, q1, e1⟩
        · exact absurd rfl ne
      · rw [List.getElem?_set_ne n1] at e1
        rw [List.getElem?_set_ne n2] at e2
        exact R.sep j j' bo m bo' m' b q1 q2 e1 e2
  · rcases own_of z with rfl | z
    · exact .inr h0
    · exact P.sub b z
  · obtain ⟨⟨l1, e1⟩, q1⟩ := P.bor j m e
    have ne := wr_ne hw e1
    exact ⟨⟨l1, by rw [List.getElem?_set_ne ne]; exact e1⟩, by rw [List.getElem?_set_ne ne]; exact q1⟩
theorem PostS.write {i : Nat} {bo : Bool} {l m : List PD} {a : Addr} {xs ys : List V} (P : PostS K T ρ σ H ρ1 σ1 H1) (hi : ρ1[i]? = some (.own bo l)) (hs : σ1[i]? = some (some (.ref a))) (ha : H1 a = some (.lst xs)) (ht : TrA K H1 ys m) :
    PostS K T ρ σ H (ρ1.set i (.own bo m)) σ1 (upd H1 a (.lst ys)) := by
  have R := P.rep
  have k : KeepH H1 (upd H1 a (.lst ys)) := KeepH.lst ha
  have own : OwA ρ1 σ1 a := ⟨i, bo, l, hi, hs⟩
  have own_of : ∀ {b : Addr}, OwA (ρ1.set i (.own bo m)) σ1 b → OwA ρ1 σ1 b := fun {b} z => by
    obtain ⟨j, bo', m', e1, e2⟩ := z
    rcases set_get e1 with ⟨rfl, _⟩ | ⟨_, e1⟩
    · exact ⟨i, bo, l, hi, e2⟩
    · exact ⟨j, bo', m', e1, e2⟩
  refine ⟨⟨fun j e q => ?_, fun j bo' m' q => ?_, fun j j' b1 m1 b2 m2 b q1 q2 e1 e2 => ?_, fun Q hQ => ?_, by rw [List.length_set]; exact R.len⟩, ⟨fun b u q h1 h2 => ?_, fun b q => ?_, fun Q x => (P.fm.tab Q x).lst ha⟩, fun b z => P.sub b (own_of z), P.len, mon_set (fun z => by cases z) P.mon, fun j n e => ?_⟩
  · rcases set_get q with ⟨_, q'⟩ | ⟨ne, q'⟩
    · cases q'
    · obtain ⟨w, h1, h2⟩ := R.val j e q'
      exact ⟨w, h1, h2.keep k⟩
  · rcases set_get q with ⟨rfl, q'⟩ | ⟨ne, q'⟩
    · cases q'
      exact ⟨a, ys, hs, upd_same, ht.keep k⟩
    · obtain ⟨b, zs, h1, h2, h3⟩ := R.own j bo' m' q'
      have nb : b ≠ a := fun z => by
        rw [z] at h1
        exact ne (R.sep i j bo l bo' m' a hi q' hs h1)
      exact ⟨b, zs, h1, by rw [upd_ne nb]; exact h2, h3.keep k⟩
  · have back : ∀ {j : Nat} {b' : Bool} {m' : List PD}, (ρ1.set i (.own bo m))[j]? = some (.own b' m') → ∃ b'' m'', ρ1[j]? = some (.own b'' m'') := fun {j b' m'} q => by
      rcases set_get q with ⟨rfl, _⟩ | ⟨_, q'⟩
      · exact ⟨_, _, hi⟩
      · exact ⟨_, _, q'⟩
    obtain ⟨_, _, p1⟩ := back q1
    obtain ⟨_, _, p2⟩ := back q2
    exact R.sep j j' _ _ _ _ b p1 p2 e1 e2
  · exact (R.tabs Q hQ).lst ha
  · have e := P.fm.keep b u q h1 h2
    have nb : b ≠ a := fun z => by
      subst z
      rcases P.sub b own with z | z
      · exact h2 z
      · rw [q] at z; cases z
    rw [upd_ne nb]
    exact e
  · by_cases hb : b = a
    · rw [hb, upd_same] at q; cases q
    · rw [upd_ne hb] at q
      exact P.fm.dom b q
  · obtain ⟨⟨l1, e1⟩, q1⟩ := P.bor j n e
    refine ⟨?_, q1⟩
    by_cases hj : i = j
    · subst hj
      rw [hi] at e1
      cases e1
      exact ⟨m, by rw [List.getElem?_set_self (List.getElem?_eq_some_iff.mp hi).1]⟩
    · exact ⟨l1, by rw [List.getElem?_set_ne hj]; exact e1⟩
end
def tEnd (K : PySem.W.Frag) (T : List Addr) (ρ : Rho) (σ : Slots) (H : Hp) (D : Ends) : Fw → Prop
  | .nx ρ' => ∀ σ' H', PostS K T ρ σ H ρ' σ' H' → D.nx σ' H'
  | .rt d ρ' => ∀ v σ' H', PostS K T ρ σ H ρ' σ' H' → Tr K H' v d → D.rt v H'
  | .bk ρ' => ∀ σ' H', PostS K T ρ σ H ρ' σ' H' → D.bk σ' H'
  | .ct ρ' => ∀ σ' H', PostS K T ρ σ H ρ' σ' H' → D.ct σ' H'
def tSt (K : PySem.W.Frag) (T : List Addr) (f : Es) : TS := fun D σ H => ∃ ρ w, RepS K T ρ σ H ∧ f ρ = some w ∧ tEnd K T ρ σ H D w
def SS (X : Cx) (T : List Addr) (st : Stmt) (f : Es) : Prop := PS X st (tSt X.K T f)
def SSs (X : Cx) (T : List Addr) (st : List Stmt) (f : Es) : Prop := PSs X st (tSt X.K T f)
theorem tEnd.shift {K : PySem.W.Frag} {T : List Addr} {ρ ρ1 : Rho} {σ σ1 : Slots} {H H1 : Hp} {D : Ends} {w : Fw} (P : PostS K T ρ σ H ρ1 σ1 H1) (h : tEnd K T ρ σ H D w) : tEnd K T ρ1 σ1 H1 D w := by
  cases w with
  | nx ρ' => exact fun σ' H' q => h σ' H' (P.trans q)
  | rt d ρ' => exact fun v σ' H' q t => h v σ' H' (P.trans q) t
  | bk ρ' => exact fun σ' H' q => h σ' H' (P.trans q)
  | ct ρ' => exact fun σ' H' q => h σ' H' (P.trans q)
section
variable {X : Cx} {T : List Addr} {e a b c : Expr} {es : List Expr} {st : Stmt} {rest : List Stmt} {f f1 f2 f3 : Ev} {g g1 g2 : Et} {fs : Ea} {p p1 p2 : Es} {pos pos' : Pos}
def cNil : Es := fun ρ => some (.nx ρ)
def cSeq (p1 p2 : Es) : Es := fun ρ => (p1 ρ).bind fun w => match w with
  | .nx ρ' => p2 ρ'
  | w => some w
theorem ss_nil : SSs X T [] cNil := by
  refine PSs.imp pss_nil fun D σ H ⟨ρ, w, R, e, h⟩ => ?_
  cases e
  exact h σ H (PostS.refl R)
theorem ss_cons (h1 : SS X T st p1) (h2 : SSs X T rest p2) : SSs X T (st :: rest) (cSeq p1 p2) := by
  refine PSs.imp (pss_cons h1 h2) fun D σ H ⟨ρ, w, R, e, h⟩ => ?_
  obtain ⟨w1, e1, e2⟩ := obind e
  refine ⟨ρ, w1, R, e1, ?_⟩
  cases w1 with
  | nx ρ1 => exact fun σ1 H1 P => ⟨ρ1, w, P.rep, e2, h.shift P⟩
  | rt d ρ1 =>
    simp only [Option.some.injEq] at e2
    subst e2
    exact h
  | bk ρ1 =>
    simp only [Option.some.injEq] at e2
    subst e2
    exact h
  | ct ρ1 =>
    simp only [Option.some.injEq] at e2
    subst e2
    exact h
theorem ss_one (h : SS X T st p) : SSs X T [st] p := pss_one h
def cNever : Es := fun _ => none
theorem ss_never : SS X T st cNever := ⟨fun pins s σ H D I ⟨ρ, w, R, e, h⟩ => by cases e⟩
def cRet (f : Ev) : Es := fun ρ => (fVal f ρ).bind fun q => match q.1 with
  | .val d => some (.rt d q.2)
  | _ => none
theorem ss_ret (h : SE X T e f) : SS X T (.Return (some e) pos) (cRet f) := by
  refine PS.imp (ps_ret (s_val h)) fun D σ H ⟨ρ, w, R, e, h⟩ => ?_
  obtain ⟨⟨r1, ρ1⟩, e1, e2⟩ := obind e
  cases r1 with
  | val d =>
    simp only [Option.some.injEq] at e2
    subst e2
    exact ⟨ρ, .val d, ρ1, R, e1, fun v H1 P => h v σ H1 P.toT.toS P.res⟩
  | slot i => simp at e2
  | new l => simp at e2
def cExp (f : Ev) : Es := fun ρ => (f ρ).map fun q => .nx q.2
theorem ss_expr (h : SE X T e f) (hs : swapsWith e none pos.line X.env = pure false := by rfl) : SS X T (.Expr e pos) (cExp f) := by
  refine PS.imp (ps_expr h hs) fun D σ H ⟨ρ, w, R, e, h⟩ => ?_
  obtain ⟨⟨r1, ρ1⟩, e1, e2⟩ := omap e
  cases e2
  exact ⟨ρ, r1, ρ1, R, e1, fun v H1 P => h σ H1 P.toT.toS⟩
def cIf (g : Et) (p1 p2 : Es) : Es := fun ρ => (g ρ).bind fun q => if q.1 = true then p1 q.2 else p2 q.2
theorem ss_if {bs cs : List Stmt} (hc : ST X T c g) (h1 : SSs X T bs p1) (h2 : SSs X T cs p2) : SS X T (.If c bs cs pos) (cIf g p1 p2) := by
  refine PS.imp (ps_if hc h1 h2) fun D σ H ⟨ρ, w, R, e, h⟩ => ?_
  obtain ⟨⟨k, ρ1⟩, e1, e2⟩ := obind e
  refine ⟨ρ, k, ρ1, R, e1, fun H1 P => ?_⟩
  cases k with
  | true => exact ⟨ρ1, w, P.rep, by simpa using e2, h.shift P.toS⟩
  | false => exact ⟨ρ1, w, P.rep, by simpa using e2, h.shift P.toS⟩
def cAsg (i : Nat) (f : Ev) : Es := fun ρ => (f ρ).bind fun q => if wr q.2 i = true then match q.1 with
  | .val d => some (.nx (q.2.set i (.val d)))
  | .new l => some (.nx (q.2.set i (.own false l)))
  | .slot _ => none
  else none
theorem asg_core {i : Nat} {D : Ends} {σ : Slots} {H : Hp} (h : tSt X.K T (cAsg i f) D σ H) : tAsg (tS X.K T f) (gName i) D σ H := by
  obtain ⟨ρ, w, R, e, h⟩ := h
  obtain ⟨⟨r1, ρ1⟩, e1, e2⟩ := obind e
  by_cases hw : wr ρ1 i = true
  · simp only [hw, if_true] at e2
    refine ⟨ρ, r1, ρ1, R, e1, fun v H1 P => ?_⟩
    cases r1 with
    | val d =>
      simp only [Option.some.injEq] at e2
      subst e2
      exact h _ H1 (P.toT.toS.put hw P.res)
    | new l =>
      simp only [Option.some.injEq] at e2
      subst e2
      obtain ⟨a, xs, rfl, ha, ht, hn, h0⟩ := P.res
      exact h _ H1 (P.toT.toS.putNew hw ha ht hn h0)
    | slot j => cases e2
  · simp only [hw, if_false] at e2
    cases e2
theorem ss_set {i : Nat} {x : Str} (hN : X.N.Nodup) (h : SE X T e f) (hi : X.N[i]? = some x := by rfl) (hx : Loc X.env.scope x := by first | exact .inl rfl | exact .inr rfl) (hs : swapsWith e (some (.Name x pos')) pos.line X.env = pure false := by rfl)
    (hf : X.fn x = true ∨ X.env.scope.names.lookup x = some .local := by first | exact .inl rfl | exact .inr rfl) : SS X T (.Assign [.Name x pos'] e pos) (cAsg i f) :=
  PS.imp (ps_set hN hi hx h hs hf) fun D σ H h => asg_core h
theorem TrA.two {K : PySem.W.Frag} {H : Hp} {vs : List V} {d e : PD} (h : TrA K H vs [d, e]) : ∃ v w, vs = [v, w] ∧ Tr K H v d ∧ Tr K H w e := by
  cases h with
  | cons h1 h => cases h with
    | cons h2 h => cases h; exact ⟨_, _, rfl, h1, h2⟩
end
end Dv
set_option Elab.async false
set_option linter.all false
set_option maxRecDepth 100000
set_option maxHeartbeats 4000000
namespace Dv
open PySem PySem.Spec PyProof.Rows L2 Gq
structure ItOk (K : PySem.W.Frag) (J : It) (ds : List PD) (H : Hp) : Prop where
  go : ∀ (i : Nat) (H' : Hp), KeepH H H' → i < ds.length → J.go i H'
  stop : ∀ (i : Nat) (H' : Hp), KeepH H H' → ds.length ≤ i → J.stop i H'
  yld : ∀ (i : Nat) (H' : Hp) (x : V) (H'' : Hp), KeepH H H' → i < ds.length → J.yld i H' x H'' → (∀ b o, H' b = some o → H'' b = some o) ∧ ∃ d, ds[i]? = some d ∧ Tr K H'' x d
def tI (K : PySem.W.Frag) (T : List Addr) (f : Ea) : TI := fun σ H R => ∃ ρ ds ρ', RepS K T ρ σ H ∧ f ρ = some (ds, ρ') ∧ ∀ J H', PostT K T ρ σ H ρ' H' → ItOk K J ds H' → R J H'
def SI (X : Cx) (T : List Addr) (tg e : Expr) (f : Ea) : Prop := PI X tg e (tI X.K T f)
theorem PI.imp {X : Cx} {tg e : Expr} {t t' : TI} (h : PI X tg e t') (w : ∀ σ H R, t σ H R → t' σ H R) : PI X tg e t := ⟨fun pins s σ H R I q => h.run pins s σ H R I (w σ H R q)⟩
theorem PI.or {X : Cx} {tg e : Expr} {t t' : TI} (h : PI X tg e t) (h' : PI X tg e t') : PI X tg e (fun σ H R => t σ H R ∨ t' σ H R) := ⟨fun pins s σ H R I q => by
  rcases q with q | q
  · exact h.run pins s σ H R I q
  · exact h'.run pins s σ H R I q⟩
section
variable {X : Cx} {T : List Addr} {tg e a b : Expr} {f f1 f2 : Ev} {fs : Ea} {pos p : Pos}
def iSeq (f : Ev) : Ea := fun ρ => (fVal f ρ).bind fun q => match q.1 with
  | .val (.list l) => some (l, q.2)
  | .val (.tuple l) => some (l, q.2)
  | _ => none
theorem si_seq (h : SE X T e f) : SI X T tg e (iSeq f) := by
  refine PI.imp (PI.or (pi_list (s_val h)) (pi_tup (s_val h))) fun σ H R ⟨ρ, ds, ρ', Rp, e, q⟩ => ?_
  obtain ⟨⟨r1, ρ1⟩, e1, e2⟩ := obind e
  cases r1 with
  | val d =>
    cases d with
    | list l =>
      simp only [Option.some.injEq, Prod.mk.injEq] at e2
      obtain ⟨rfl, rfl⟩ := e2
      refine .inl ⟨ρ, _, ρ1, Rp, e1, fun v H1 P => ?_⟩
      have res : Tr X.K H1 v (.list l) := P.res
      cases res with
      | lst hs ht =>
        rename_i a xs
        refine ⟨a, rfl, ⟨_, hs.sql⟩, q _ H1 P.toT ⟨fun i H' k hi => ?_, fun i H' k hi => ?_, fun i H' x H'' k _ y => ?_⟩⟩
        · have hi' : i < xs.length := by rw [ht.len]; exact hi
          exact ⟨xs, xs[i], (k.sqf hs).sql, by simp [hi']⟩
        · exact ⟨xs, (k.sqf hs).sql, by rw [ht.len]; exact hi⟩
        · obtain ⟨rfl, y⟩ := y
          refine ⟨fun _ _ z => z, ?_⟩
          obtain ⟨d, e1, e2⟩ := (ht.keep k).getV (y xs (k.sqf hs).sql)
          exact ⟨d, e1, e2⟩
    | tuple l =>
      simp only [Option.some.injEq, Prod.mk.injEq] at e2
      obtain ⟨rfl, rfl⟩ := e2
      refine .inr ⟨ρ, _, ρ1, Rp, e1, fun v H1 P => ?_⟩
      have res : Tr X.K H1 v (.tuple l) := P.res
      cases res with
      | tup hs ht =>
        rename_i a xs
        refine ⟨a, rfl, ⟨_, hs.sqt⟩, q _ H1 P.toT ⟨fun i H' k hi => ?_, fun i H' k hi => ?_, fun i H' x H'' k _ y => ?_⟩⟩
        · have hi' : i < xs.length := by rw [ht.len]; exact hi
          exact ⟨xs, xs[i], (k.sqtf hs).sqt, by simp [hi']⟩
        · exact ⟨xs, (k.sqtf hs).sqt, by rw [ht.len]; exact hi⟩
        · obtain ⟨rfl, y⟩ := y
          refine ⟨fun _ _ z => z, ?_⟩
          obtain ⟨d, e1, e2⟩ := (ht.keep k).getV (y xs ((k.sqtf hs).sqt))
          exact ⟨d, e1, e2⟩
    | _ => simp at e2
  | slot i => simp at e2
  | new l => simp at e2
def rngL (lo : Int) (n : Nat) : List PD := (List.range n).map fun (k : Nat) => .int (lo + (k : Int))
theorem itr_ok {K : PySem.W.Frag} {H : Hp} (lo : Int) (n : Nat) : ItOk K (Itr lo n) (rngL lo n) H := by
  refine ⟨fun i H' _ hi => ?_, fun i H' _ hi => ?_, fun i H' x H'' _ hi y => ?_⟩
  · show i < n
    simpa [rngL] using hi
  · show n ≤ i
    simpa [rngL] using hi
  · obtain ⟨rfl, rfl⟩ := y
    refine ⟨fun _ _ z => z, .int (lo + i), ?_, .int _⟩
    have hi' : i < n := by simpa [rngL] using hi
    simp [rngL, hi']
def iRng1 (fs : Ea) : Ea := fun ρ => (fs ρ).bind fun q => match q.1 with
  | [.int j] => if -(2 ^ 62) ≤ j ∧ j < 2 ^ 62 then some (rngL 0 j.toNat, q.2) else none
  | _ => none
theorem TrA.one {K : PySem.W.Frag} {H : Hp} {vs : List V} {d : PD} (h : TrA K H vs [d]) : ∃ v, vs = [v] ∧ Tr K H v d := by
  cases h with
  | cons h1 h => cases h; exact ⟨_, rfl, h1⟩
theorem Tr.int_eq {K : PySem.W.Frag} {H : Hp} {v : V} {i : Int} (h : Tr K H v (.int i)) : v = .int i := by cases h; rfl
theorem si_range1 (hg : Gl X "range") (hm : X.mg "range" = none) (ha : SA X T [a] fs) (hs : starEach [a] X.env = [(false, eval a X.env)] := by rfl) : SI X T tg (.Call (.Name "range" p) [a] [] pos) (iRng1 fs) := by
  refine PI.imp (pi_range1 hg hm ha hs) fun σ H R ⟨ρ, ds, ρ', Rp, e, q⟩ => ?_
  obtain ⟨⟨l, ρ1⟩, e1, e2⟩ := obind e
  match l, e1, e2 with
  | [.int j], e1, e2 =>
    by_cases hj : -(2 ^ 62) ≤ j ∧ j < 2 ^ 62
    · simp only [hj, and_self, if_true, Option.some.injEq, Prod.mk.injEq] at e2
      obtain ⟨rfl, rfl⟩ := e2
      refine ⟨ρ, _, ρ1, Rp, e1, fun vs H1 P t => ?_⟩
      obtain ⟨v, rfl, t1⟩ := t.one
      exact ⟨j, by rw [t1.int_eq], hj.1, hj.2, q _ H1 P (itr_ok 0 _)⟩
    · simp only [hj, if_false] at e2
      cases e2
  | [], _, e2 => simp at e2
  | [.none], _, e2 => simp at e2
  | [.bool _], _, e2 => simp at e2
  | [.str _], _, e2 => simp at e2
  | [.list _], _, e2 => simp at e2
  | [.tuple _], _, e2 => simp at e2
  | [.dict _], _, e2 => simp at e2
  | _ :: _ :: _, _, e2 => simp at e2
def iRng2 (fs : Ea) : Ea := fun ρ => (fs ρ).bind fun q => match q.1 with
  | [.int i, .int j] => if -(2 ^ 62) ≤ i ∧ i < 2 ^ 62 ∧ -(2 ^ 62) ≤ j ∧ j < 2 ^ 62 then some (rngL i (j - i).toNat, q.2) else none
  | _ => none
theorem iRng2_some {ρ ρ' : Rho} {ds : List PD} (e : iRng2 fs ρ = some (ds, ρ')) : ∃ i j, fs ρ = some ([.int i, .int j], ρ') ∧ (-(2 ^ 62) ≤ i ∧ i < 2 ^ 62 ∧ -(2 ^ 62) ≤ j ∧ j < 2 ^ 62) ∧ ds = rngL i (j - i).toNat := by
  obtain ⟨⟨l, ρ1⟩, e1, e2⟩ := obind e
  simp only at e2
  split at e2
  · rename_i i j
    split at e2
    · rename_i hj
      simp only [Option.some.injEq, Prod.mk.injEq] at e2
      obtain ⟨rfl, rfl⟩ := e2
      exact ⟨i, j, e1, hj, rfl⟩
    · cases e2
  · cases e2
theorem si_range2 (hg : Gl X "range") (hm : X.mg "range" = none) (ha : SA X T [a, b] fs) (hs : starEach [a, b] X.env = [(false, eval a X.env), (false, eval b X.env)] := by rfl) (hs2 : starEach [b] X.env = [(false, eval b X.env)] := by rfl) :
    SI X T tg (.Call (.Name "range" p) [a, b] [] pos) (iRng2 fs) := by
  refine PI.imp (pi_range2 hg hm ha hs hs2) fun σ H R ⟨ρ, ds, ρ', Rp, e, q⟩ => ?_
  obtain ⟨i, j, e1, hj, rfl⟩ := iRng2_some e
  refine ⟨ρ, _, ρ', Rp, e1, fun vs H1 P t => ?_⟩
  obtain ⟨v, w, rfl, t1, t2⟩ := t.two
  exact ⟨i, j, by rw [t1.int_eq, t2.int_eq], hj, q _ H1 P (itr_ok _ _)⟩
def GOk (K : PySem.W.Frag) (T : List Addr) (is : List Nat) (g : TG) (st : PD → Rho → Option Rho) : Prop :=
  ∀ (v : V) (d : PD) (ρ ρ' : Rho) (σ : Slots) (H : Hp) (Q : Slots → Hp → Prop), RepS K T ρ σ H → Tr K H v d → st d ρ = some ρ' →
    (∀ σ', PostS K T ρ σ H ρ' σ' H → (∀ b, OwA ρ' σ' b → OwA ρ σ b) → (∀ j, j ∉ is → σ'[j]? = σ[j]?) → Q σ' H) → g v σ H Q
def stNm (i : Nat) : PD → Rho → Option Rho := fun d ρ => if wr ρ i = true then some (ρ.set i (.val d)) else none
theorem g_nm {K : PySem.W.Frag} {T : List Addr} (i : Nat) : GOk K T [i] (gName i) (stNm i) := by
  intro v d ρ ρ' σ H Q R t e q
  unfold stNm at e
  split at e
  · rename_i hw
    cases e
    exact q _ ((PostS.refl R).put hw t) (fun b z => z.of_put) fun j hj => List.getElem?_set_ne (by simpa [eq_comm] using hj)
  · cases e
def stTs : List Nat → List PD → Rho → Option Rho
  | [], [], ρ => some ρ
  | i :: is, d :: ds, ρ => if wr ρ i = true then stTs is ds (ρ.set i (.val d)) else none
  | _, _, _ => none
def stTup (is : List Nat) : PD → Rho → Option Rho := fun d ρ => match d with
  | .tuple ds => stTs is ds ρ
  | _ => none
def gNames : List Nat → TGs
  | [] => gNil
  | i :: is => gCons (gName i) (gNames is)
theorem stTs_len : ∀ {is : List Nat} {ds : List PD} {ρ ρ' : Rho}, stTs is ds ρ = some ρ' → ds.length = is.length
  | [], [], _, _, _ => rfl
  | i :: is, d :: ds, ρ, ρ', h => by
    unfold stTs at h
    split at h
    · simp [stTs_len h]
    · cases h
  | [], _ :: _, _, _, h => by simp [stTs] at h
  | _ :: _, [], _, _, h => by simp [stTs] at h
theorem g_names {K : PySem.W.Frag} {T : List Addr} {ρ0 : Rho} {σ0 : Slots} {H : Hp} {Q : Slots → Hp → Prop} : ∀ {is : List Nat} {ds : List PD} {vs : List V} {ρ ρ' : Rho} {σ : Slots}, PostS K T ρ0 σ0 H ρ σ H → (∀ b, OwA ρ σ b → OwA ρ0 σ0 b) → TrA K H vs ds → stTs is ds ρ = some ρ' →
    (∀ σ', PostS K T ρ0 σ0 H ρ' σ' H → (∀ b, OwA ρ' σ' b → OwA ρ0 σ0 b) → (∀ j, j ∉ is → σ'[j]? = σ[j]?) → Q σ' H) → gNames is vs σ H Q
  | [], [], vs, ρ, ρ', σ, P, hs, t, e, q => by
    cases t
    simp only [stTs, Option.some.injEq] at e
    subst e
    exact ⟨rfl, q σ P hs fun _ _ => rfl⟩
  | i :: is, d :: ds, vs, ρ, ρ', σ, P, hs, t, e, q => by
    cases t with
    | cons t1 t2 =>
      unfold stTs at e
      split at e
      · rename_i hw
        refine ⟨_, _, rfl, ?_⟩
        refine g_names (P.put hw t1) (fun b z => hs b z.of_put) t2 e fun σ' P' hs' h => q σ' P' hs' fun j hj => ?_
        rw [List.mem_cons, not_or] at hj
        rw [h j hj.2, List.getElem?_set_ne (Ne.symm hj.1)]
      · cases e
  | [], _ :: _, _, _, _, _, _, _, _, e, _ => by simp [stTs] at e
  | _ :: _, [], _, _, _, _, _, _, _, e, _ => by simp [stTs] at e
theorem g_tup {K : PySem.W.Frag} {T : List Addr} (is : List Nat) : GOk K T is (gTup K is.length (gNames is)) (stTup is) := by
  intro v d ρ ρ' σ H Q R t e q
  cases t with
  | tup hs ht => exact ⟨_, _, rfl, hs.sqt, by rw [ht.len]; exact stTs_len e, g_names (PostS.refl R) (fun _ z => z) ht e q⟩
  | _ => simp [stTup] at e
def forL (st : PD → Rho → Option Rho) (b : Es) : List PD → Es
  | [], ρ => some (.nx ρ)
  | d :: ds, ρ => (st d ρ).bind fun ρ1 => (b ρ1).bind fun w => match w with
    | .nx ρ2 => forL st b ds ρ2
    | .ct ρ2 => forL st b ds ρ2
    | .bk ρ2 => some (.nx ρ2)
    | .rt d ρ2 => some (.rt d ρ2)
def cFor (fi : Ea) (st : PD → Rho → Option Rho) (b : Es) : Es := fun ρ => (fi ρ).bind fun q => forL st b q.1 q.2
theorem PostS.ext {K : PySem.W.Frag} {ρ ρ1 : Rho} {σ σ1 : Slots} {H H1 H2 : Hp} (P : PostS K T ρ σ H ρ1 σ1 H1) (h : ∀ b o, H1 b = some o → H2 b = some o) : PostS K T ρ σ H ρ1 σ1 H2 :=
  P.trans ⟨P.rep.ext h, Fm.ext h, fun b z => .inl z, rfl, fun i x e n => ⟨x, e, n⟩, fun i l e => ⟨⟨l, e⟩, rfl⟩⟩
theorem PostS.keep {K : PySem.W.Frag} {ρ ρ1 : Rho} {σ σ1 : Slots} {H H1 : Hp} (R : RepS K T ρ σ H) (P : PostS K T ρ σ H ρ1 σ1 H1) : KeepH H H1 := R.keepOf P.fm
theorem keep_ext {H H1 : Hp} (h : ∀ b o, H b = some o → H1 b = some o) : KeepH H H1 := ⟨fun b xs e => h _ _ e, fun b o u e => h _ _ e⟩
theorem drop_cons {α : Type} {l : List α} {i : Nat} (h : i < l.length) : l.drop i = l[i] :: l.drop (i + 1) := List.drop_eq_getElem_cons h
theorem ss_for {iter : Expr} {body : List Stmt} {fi : Ea} {is : List Nat} {g : TG} {st : PD → Rho → Option Rho} {b : Es} (hp : PassesOwn (model X.prog X.w) X.A X.env X.xe) (hc : X.calm = true) (hi : SI X T tg iter fi) (hg : PG X tg g) (hgo : GOk X.K T is g st) (hb : SSs X T body b)
    (hs : ∀ x, foldedSetIterable iter X.env x = pure x := by intro _; rfl) : SS X T (.For tg iter body [] pos) (cFor fi st b) := by
  refine PS.imp (ps_for hp hc hi hg hb hs) fun D σ H ⟨ρ, w, R, e, h⟩ => ?_
  obtain ⟨⟨ds, ρ1⟩, e1, e2⟩ := obind e
  refine ⟨ρ, ds, ρ1, R, e1, fun J H1 P1 I => ?_⟩
  refine ⟨fun i m σ2 H2 => m = ds.length - i ∧ ∃ ρ2, PostS X.K T ρ σ H ρ2 σ2 H2 ∧ KeepH H1 H2 ∧ forL st b (ds.drop i) ρ2 = some w, ⟨ds.length, rfl, ρ1, P1.toS, KeepH.refl, e2⟩, ?_⟩
  rintro i m σ2 H2 ⟨rfl, ρ2, P2, k2, e3⟩
  by_cases hlt : i < ds.length
  · refine .inr ⟨I.go i H2 k2 hlt, fun σ' H' => i < ds.length ∧ ∃ ρ2, PostS X.K T ρ σ H ρ2 σ' H' ∧ KeepH H1 H' ∧ forL st b (ds.drop (i + 1)) ρ2 = some w, fun σ' H' z => ⟨ds.length - (i + 1), by omega, rfl, z.2⟩, fun x H3 y => ?_⟩
    obtain ⟨ext, d, ed, t⟩ := I.yld i H2 x H3 k2 hlt y
    have ed' : ds[i] = d := by
      rw [List.getElem?_eq_getElem hlt] at ed
      exact Option.some.inj ed
    rw [drop_cons hlt, ed'] at e3
    have P3 := P2.ext ext
    have k3 := k2.trans (keep_ext ext)
    unfold forL at e3
    obtain ⟨ρ4, e4, e5⟩ := obind e3
    obtain ⟨w5, e5, e6⟩ := obind e5
    refine hgo x d ρ2 ρ4 σ2 H3 _ P3.rep t e4 fun σ4 P4 _ _ => ?_
    refine ⟨ρ4, w5, P4.rep, e5, ?_⟩
    have P34 := P3.trans P4
    cases w5 with
    | nx ρ6 => exact fun σ6 H6 P6 => ⟨hlt, ρ6, P34.trans P6, k3.trans (PostS.keep P4.rep P6), e6⟩
    | ct ρ6 => exact fun σ6 H6 P6 => ⟨hlt, ρ6, P34.trans P6, k3.trans (PostS.keep P4.rep P6), e6⟩
    | bk ρ6 =>
      simp only [Option.some.injEq] at e6
      subst e6
      exact fun σ6 H6 P6 => h σ6 H6 (P34.trans P6)
    | rt d6 ρ6 =>
      simp only [Option.some.injEq] at e6
      subst e6
      exact fun v σ6 H6 P6 t6 => h v σ6 H6 (P34.trans P6) t6
  · rw [List.drop_eq_nil_of_le (by omega)] at e3
    simp only [forL, Option.some.injEq] at e3
    subst e3
    exact .inl ⟨I.stop i H2 k2 (by omega), h σ2 H2 P2⟩
def whl (g : Et) (b : Es) : Nat → Es
  | 0, _ => none
  | n + 1, ρ => (g ρ).bind fun q => if q.1 = true then (b q.2).bind fun w => match w with
      | .nx ρ2 => whl g b n ρ2
      | .ct ρ2 => whl g b n ρ2
      | .bk ρ2 => some (.nx ρ2)
      | .rt d ρ2 => some (.rt d ρ2)
    else some (.nx q.2)
theorem ss_while {c : Expr} {body : List Stmt} {g : Et} {b : Es} (n : Nat) (hp : PassesOwn (model X.prog X.w) X.A X.env X.xe) (hc : ST X T c g) (hb : SSs X T body b) : SS X T (.While c body [] pos) (whl g b n) := by
  refine PS.imp (ps_while hp hc hb) fun D σ H ⟨ρ, w, R, e, h⟩ => ?_
  refine ⟨fun m σ2 H2 => ∃ ρ2, PostS X.K T ρ σ H ρ2 σ2 H2 ∧ whl g b m ρ2 = some w, ⟨n, ρ, PostS.refl R, e⟩, ?_⟩
  rintro m σ2 H2 ⟨ρ2, P2, e2⟩
  cases m with
  | zero => simp [whl] at e2
  | succ m =>
    unfold whl at e2
    obtain ⟨⟨k, ρ3⟩, e3, e4⟩ := obind e2
    refine ⟨ρ2, k, ρ3, P2.rep, e3, fun H3 P3 => ?_⟩
    have P23 := P2.trans P3.toS
    cases k with
    | true =>
      simp only [if_true] at e4 ⊢
      obtain ⟨w5, e5, e6⟩ := obind e4
      refine ⟨fun σ' H' => ∃ ρ2, PostS X.K T ρ σ H ρ2 σ' H' ∧ whl g b m ρ2 = some w, fun σ' H' z => ⟨m, Nat.lt_succ_self _, z⟩, ρ3, w5, P3.rep, e5, ?_⟩
      cases w5 with
      | nx ρ6 => exact fun σ6 H6 P6 => ⟨ρ6, P23.trans P6, e6⟩
      | ct ρ6 => exact fun σ6 H6 P6 => ⟨ρ6, P23.trans P6, e6⟩
      | bk ρ6 =>
        simp only [Option.some.injEq] at e6
        subst e6
        exact fun σ6 H6 P6 => h σ6 H6 (P23.trans P6)
      | rt d6 ρ6 =>
        simp only [Option.some.injEq] at e6
        subst e6
        exact fun v σ6 H6 P6 t6 => h v σ6 H6 (P23.trans P6) t6
    | false =>
      simp only [Bool.false_eq_true, if_false, Option.some.injEq] at e4 ⊢
      subst e4
      exact h σ2 H3 P23
end
end Dv
set_option Elab.async false
set_option linter.all false
set_option maxRecDepth 100000
set_option maxHeartbeats 4000000
namespace Dv
open PySem PySem.Spec PyProof.Rows L2 Gq
section
variable {K : PySem.W.Frag} {T : List Addr} {ρ ρ0 ρ1 ρ2 : Rho} {σ σ0 σ1 σ2 : Slots} {H H0 H1 H2 H3 : Hp} {r : Rs} {v : V} {d : PD}
structure PostW (K : PySem.W.Frag) (T : List Addr) (ρ : Rho) (σ : Slots) (H : Hp) (ρ' : Rho) (σ' : Slots) (H' : Hp) : Prop where
  rep : RepS K T ρ' σ' H'
  fm : Fm T ρ σ H H'
  sub : ∀ b, OwA ρ' σ' b → OwA ρ σ b
  len : σ'.length = σ.length
  mon : ∀ (i : Nat) (x : Slt), ρ[i]? = some x → x ≠ .no → ∃ y, ρ'[i]? = some y ∧ y ≠ .no
  bor : ∀ (i : Nat) (l : List PD), ρ[i]? = some (.own true l) → ∃ l', ρ'[i]? = some (.own true l')
theorem PostS.toW (P : PostS K T ρ σ H ρ1 σ1 H1) (hs : ∀ b, OwA ρ1 σ1 b → OwA ρ σ b) : PostW K T ρ σ H ρ1 σ1 H1 := ⟨P.rep, P.fm, hs, P.len, P.mon, fun i l e => (P.bor i l e).1⟩
theorem PostT.toW (P : PostT K T ρ σ H ρ1 H1) : PostW K T ρ σ H ρ1 σ H1 := ⟨P.rep, P.fm, P.sub, rfl, P.mon, P.bor⟩
theorem PostW.toT (P : PostW K T ρ σ H ρ1 σ H1) : PostT K T ρ σ H ρ1 H1 := ⟨P.rep, P.fm, P.sub, P.mon, P.bor⟩
theorem PostW.trans (P : PostW K T ρ σ H ρ1 σ1 H1) (P2 : PostW K T ρ1 σ1 H1 ρ2 σ2 H2) : PostW K T ρ σ H ρ2 σ2 H2 :=
  ⟨P2.rep, P.fm.trans P2.fm fun b z => .inl (P.sub b z), fun b z => P.sub b (P2.sub b z), P2.len.trans P.len, fun i x e n => (let ⟨y, e1, n1⟩ := P.mon i x e n; P2.mon i y e1 n1), fun i l e => (let ⟨l1, e1⟩ := P.bor i l e; P2.bor i l1 e1)⟩
theorem PostW.keep (R : RepS K T ρ σ H) (P : PostW K T ρ σ H ρ1 σ1 H1) : KeepH H H1 := R.keepOf P.fm
theorem PostT.ext (P : PostT K T ρ σ H ρ1 H1) (h : ∀ b o, H1 b = some o → H2 b = some o) : PostT K T ρ σ H ρ1 H2 :=
  ⟨P.rep.ext h, P.fm.trans (Fm.ext h) fun b z => .inl (P.sub b z), P.sub, P.mon, P.bor⟩
theorem RepS.upd {D : Addr} {xs ys : List V} (R : RepS K T ρ σ H) (hD : H D = some (.lst xs)) (hn : ¬ OwA ρ σ D) : RepS K T ρ σ (upd H D (.lst ys)) := by
  have k : KeepH H (L2.upd H D (.lst ys)) := KeepH.lst hD
  refine ⟨fun j e q => ?_, fun j bo m q => ?_, R.sep, fun P hP => ?_, R.len⟩
  · obtain ⟨w, h1, h2⟩ := R.val j e q
    exact ⟨w, h1, h2.keep k⟩
  · obtain ⟨b, zs, h1, h2, h3⟩ := R.own j bo m q
    have nb : b ≠ D := fun z => hn (z ▸ ⟨j, bo, m, q, h1⟩)
    exact ⟨b, zs, h1, by rw [upd_ne nb]; exact h2, h3.keep k⟩
  · exact (R.tabs P hP).lst hD
theorem PostT.upd {D : Addr} {xs ys : List V} (P : PostT K T ρ σ H ρ1 H1) (hD : H1 D = some (.lst xs)) (hn : ¬ OwA ρ1 σ D) (h0 : H D = none) : PostT K T ρ σ H ρ1 (upd H1 D (.lst ys)) := by
  refine ⟨P.rep.upd hD hn, ⟨fun b o e h1 h2 => ?_, fun b e => ?_, fun Q x => (P.fm.tab Q x).lst hD⟩, P.sub, P.mon, P.bor⟩
  · rw [upd_ne (ne_of_none e h0)]
    exact P.fm.keep b o e h1 h2
  · by_cases hb : b = D
    · rw [hb, upd_same] at e; cases e
    · rw [upd_ne hb] at e
      exact P.fm.dom b e
def wR (ρ : Rho) : List Nat → Rho
  | [] => ρ
  | v :: vs => (wR ρ vs).set v .no
theorem wR_len (ρ : Rho) : ∀ vs, (wR ρ vs).length = ρ.length
  | [] => rfl
  | v :: vs => by unfold wR; rw [List.length_set, wR_len ρ vs]
theorem wR_out {ρ : Rho} {i : Nat} : ∀ {vs : List Nat}, i ∉ vs → (wR ρ vs)[i]? = ρ[i]?
  | [], _ => rfl
  | v :: vs, h => by
    rw [List.mem_cons, not_or] at h
    unfold wR
    rw [List.getElem?_set_ne (Ne.symm h.1), wR_out h.2]
theorem wR_some {ρ : Rho} {i : Nat} {x : Slt} : ∀ {vs : List Nat}, (wR ρ vs)[i]? = some x → x ≠ .no → ρ[i]? = some x ∧ i ∉ vs
  | [], h, _ => ⟨h, by simp⟩
  | v :: vs, h, n => by
    unfold wR at h
    rcases set_get h with ⟨_, e⟩ | ⟨ne, h⟩
    · exact absurd e n
    · obtain ⟨h1, h2⟩ := wR_some h n
      exact ⟨h1, by rw [List.mem_cons, not_or]; exact ⟨Ne.symm ne, h2⟩⟩
theorem wipe_out {σ : Slots} {i : Nat} : ∀ {vs : List Nat}, i ∉ vs → (wipe σ vs)[i]? = σ[i]?
  | [], _ => rfl
  | v :: vs, h => by
    rw [List.mem_cons, not_or] at h
    unfold wipe
    rw [List.getElem?_set_ne (Ne.symm h.1), wipe_out h.2]
theorem OwA.wipe {vs : List Nat} {b : Addr} (h : OwA (wR ρ vs) (wipe σ vs) b) : OwA ρ σ b := by
  obtain ⟨i, bo, l, e1, e2⟩ := h
  obtain ⟨h1, h2⟩ := wR_some e1 (fun z => by cases z)
  rw [wipe_out h2] at e2
  exact ⟨i, bo, l, h1, e2⟩
theorem RepS.wipe {vs : List Nat} (R : RepS K T ρ σ H) : RepS K T (wR ρ vs) (wipe σ vs) H := by
  refine ⟨fun i d e => ?_, fun i bo l e => ?_, fun i j bo l bo' l' a q1 q2 e1 e2 => ?_, R.tabs, by rw [wR_len, wipe_length]; exact R.len⟩
  · obtain ⟨h1, h2⟩ := wR_some e (fun z => by cases z)
    rw [wipe_out h2]
    exact R.val i d h1
  · obtain ⟨h1, h2⟩ := wR_some e (fun z => by cases z)
    rw [wipe_out h2]
    exact R.own i bo l h1
  · obtain ⟨h1, h2⟩ := wR_some q1 (fun z => by cases z)
    obtain ⟨h3, h4⟩ := wR_some q2 (fun z => by cases z)
    rw [wipe_out h2] at e1
    rw [wipe_out h4] at e2
    exact R.sep i j bo l bo' l' a h1 h3 e1 e2
def unw (ρ1 ρ2 : Rho) : List Nat → Rho
  | [] => ρ2
  | v :: vs => (unw ρ1 ρ2 vs).set v ((ρ1[v]?).getD .no)
theorem unw_len (ρ1 ρ2 : Rho) : ∀ vs, (unw ρ1 ρ2 vs).length = ρ2.length
  | [] => rfl
  | v :: vs => by unfold unw; rw [List.length_set, unw_len ρ1 ρ2 vs]
theorem unw_out {i : Nat} : ∀ {vs : List Nat}, i ∉ vs → (unw ρ1 ρ2 vs)[i]? = ρ2[i]?
  | [], _ => rfl
  | v :: vs, h => by
    rw [List.mem_cons, not_or] at h
    unfold unw
    rw [List.getElem?_set_ne (Ne.symm h.1), unw_out h.2]
theorem unw_in {i : Nat} (hl : ρ1.length = ρ2.length) (hi : i < ρ1.length) : ∀ {vs : List Nat}, i ∈ vs → (unw ρ1 ρ2 vs)[i]? = ρ1[i]?
  | v :: vs, h => by
    unfold unw
    by_cases e : v = i
    · subst e
      rw [List.getElem?_set_self (by rw [unw_len]; omega), List.getElem?_eq_getElem hi]; rfl
    · rw [List.getElem?_set_ne e]
      rcases List.mem_cons.mp h with h | h
      · exact absurd h.symm e
      · exact unw_in hl hi h
theorem unw_post {vs : List Nat} (R : RepS K T ρ1 σ H1) (P : PostT K T (wR ρ1 vs) (wipe σ vs) H1 ρ2 H2) (hno : ∀ i, i ∈ vs → ∀ x, ρ2[i]? = some x → x = .no) : PostT K T ρ1 σ H1 (unw ρ1 ρ2 vs) H2 := by
  have hl : ρ1.length = ρ2.length := by rw [R.len, P.rep.len, wipe_length]
  have k : KeepH H1 H2 := (R.wipe (vs := vs)).keepOf P.fm
  have get : ∀ {i : Nat} {x : Slt}, (unw ρ1 ρ2 vs)[i]? = some x → (i ∈ vs ∧ ρ1[i]? = some x) ∨ (i ∉ vs ∧ ρ2[i]? = some x) := fun {i x} e => by
    by_cases hi : i ∈ vs
    · refine .inl ⟨hi, ?_⟩
      have hil : i < ρ1.length := by
        have := (List.getElem?_eq_some_iff.mp e).1
        rw [unw_len] at this; omega
      rw [← unw_in hl hil hi]; exact e
    · exact .inr ⟨hi, by rw [← unw_out hi]; exact e⟩
  -- an own list of a forgotten slot stands
  have hid : ∀ {i : Nat} {bo : Bool} {l : List PD} {a : Addr}, i ∈ vs → ρ1[i]? = some (.own bo l) → σ[i]? = some (some (.ref a)) → ¬ OwA (wR ρ1 vs) (wipe σ vs) a := fun {i bo l a} hi e1 e2 z => by
    obtain ⟨j, bo', l', q1, q2⟩ := z
    obtain ⟨h1, h2⟩ := wR_some q1 (fun z => by cases z)
    rw [wipe_out h2] at q2
    have := R.sep i j bo l bo' l' a e1 h1 e2 q2
    exact h2 (this ▸ hi)
  have ow2 : ∀ {i : Nat} {bo : Bool} {l : List PD} {a : Addr}, i ∉ vs → ρ2[i]? = some (.own bo l) → σ[i]? = some (some (.ref a)) → OwA (wR ρ1 vs) (wipe σ vs) a := fun {i bo l a} hi e1 e2 => P.sub a ⟨i, bo, l, e1, by rw [wipe_out hi]; exact e2⟩
  refine ⟨⟨fun i d e => ?_, fun i bo l e => ?_, fun i j bo l bo' l' a q1 q2 e1 e2 => ?_, P.rep.tabs, by rw [unw_len, ← hl]; exact R.len⟩, ⟨fun b o e h1 h2 => P.fm.keep b o e h1 fun z => h2 z.wipe, P.fm.dom, P.fm.tab⟩, fun b z => ?_, fun i x e n => ?_, fun i l e => ?_⟩
  · rcases get e with ⟨hi, e⟩ | ⟨hi, e⟩
    · obtain ⟨v, h1, h2⟩ := R.val i d e
      exact ⟨v, h1, h2.keep k⟩
    · obtain ⟨v, h1, h2⟩ := P.rep.val i d e
      rw [wipe_out hi] at h1
      exact ⟨v, h1, h2⟩
  · rcases get e with ⟨hi, e⟩ | ⟨hi, e⟩
    · obtain ⟨a, xs, h1, h2, h3⟩ := R.own i bo l e
      exact ⟨a, xs, h1, P.fm.keep a _ h2 (fun _ z => by cases z) (hid hi e h1), h3.keep k⟩
    · obtain ⟨a, xs, h1, h2, h3⟩ := P.rep.own i bo l e
      rw [wipe_out hi] at h1
      exact ⟨a, xs, h1, h2, h3⟩
  · rcases get q1 with ⟨hi, q1⟩ | ⟨hi, q1⟩
    · rcases get q2 with ⟨hj, q2⟩ | ⟨hj, q2⟩
      · exact R.sep i j bo l bo' l' a q1 q2 e1 e2
      · exact absurd (ow2 hj q2 e2) (hid hi q1 e1)
    · rcases get q2 with ⟨hj, q2⟩ | ⟨hj, q2⟩
      · exact absurd (ow2 hi q1 e1) (hid hj q2 e2)
      · exact P.rep.sep i j bo l bo' l' a q1 q2 (by rw [wipe_out hi]; exact e1) (by rw [wipe_out hj]; exact e2)
  · obtain ⟨i, bo, l, q1, q2⟩ := z
    rcases get q1 with ⟨hi, q1⟩ | ⟨hi, q1⟩
    · exact ⟨i, bo, l, q1, q2⟩
    · exact (ow2 hi q1 q2).wipe
  · by_cases hi : i ∈ vs
    · exact ⟨x, by rw [unw_in hl (List.getElem?_eq_some_iff.mp e).1 hi]; exact e, n⟩
    · obtain ⟨y, e1, n1⟩ := P.mon i x (by rw [wR_out hi]; exact e) n
      exact ⟨y, by rw [unw_out hi]; exact e1, n1⟩
  · by_cases hi : i ∈ vs
    · exact ⟨l, by rw [unw_in hl (List.getElem?_eq_some_iff.mp e).1 hi]; exact e⟩
    · obtain ⟨l', e1⟩ := P.bor i l (by rw [wR_out hi]; exact e)
      exact ⟨l', by rw [unw_out hi]; exact e1⟩
end
def STs (X : Cx) (T : List Addr) (ifs : List Expr) (g : Et) : Prop := PTs X ifs (tT X.K T g)
theorem PTs.imp {X : Cx} {es : List Expr} {t t' : TT} (h : PTs X es t') (w : ∀ σ H Q, t σ H Q → t' σ H Q) : PTs X es t := ⟨fun pins s σ H Q I q => h.run pins s σ H Q I (w σ H Q q)⟩
def gYes : Et := fun ρ => some (true, ρ)
theorem sts_nil {X : Cx} {T : List Addr} : STs X T [] gYes := by
  refine PTs.imp pts_nil fun σ H Q ⟨ρ, b, ρ', R, e, q⟩ => ?_
  cases e
  exact q H (PostT.refl R)
theorem sts_one {X : Cx} {T : List Addr} {c : Expr} {g : Et} (h : ST X T c g) : STs X T [c] g := pts_one h
def cmpL (vs : List Nat) (st : PD → Rho → Option Rho) (g : Et) (fe : Ev) : List PD → Rho → Option (List PD × Rho)
  | [], ρ => some ([], wR ρ vs)
  | d :: ds, ρ => (st d (wR ρ vs)).bind fun ρ1 => (g ρ1).bind fun q => if q.1 = true then (fVal fe q.2).bind fun p => match p.1 with
      | .val y => (cmpL vs st g fe ds p.2).map fun r => (y :: r.1, r.2)
      | _ => none
    else cmpL vs st g fe ds q.2
def fComp (vs : List Nat) (fi : Ea) (st : PD → Rho → Option Rho) (g : Et) (fe : Ev) : Ev := fun ρ => (fi ρ).bind fun q => (cmpL vs st g fe q.1 q.2).bind fun r => if r.1.length ≤ sizeLine then some (.new r.1, unw q.2 r.2 vs) else none
theorem wR_in {ρ : Rho} {i : Nat} {x : Slt} : ∀ {vs : List Nat}, i ∈ vs → (wR ρ vs)[i]? = some x → x = .no
  | v :: vs, h, e => by
    unfold wR at e
    rcases set_get e with ⟨_, e⟩ | ⟨ne, e⟩
    · exact e
    · rcases List.mem_cons.mp h with h | h
      · exact absurd h.symm ne
      · exact wR_in h e
theorem wipe_eq {σ σ' : Slots} {vs is : List Nat} (hl : σ'.length = (wipe σ vs).length) (h : ∀ j, j ∉ is → σ'[j]? = (wipe σ vs)[j]?) (hs : ∀ i ∈ is, i ∈ vs) : wipe σ' vs = wipe σ vs := by
  have len : σ'.length = σ.length := by rw [hl, wipe_length]
  apply List.ext_getElem?
  intro i
  by_cases hi : i ∈ vs
  · have no : ∀ (τ : Slots) (x : Option V), (wipe τ vs)[i]? = some x → x = none := fun τ x e => by
      cases x with
      | none => rfl
      | some y => exact absurd hi (wipe_some e).2
    cases h1 : (wipe σ' vs)[i]? with
    | none =>
      rw [List.getElem?_eq_none_iff, wipe_length] at h1
      symm
      rw [List.getElem?_eq_none_iff, wipe_length]; omega
    | some x =>
      have := (List.getElem?_eq_some_iff.mp h1).1
      rw [wipe_length] at this
      have h2 : ∃ y, (wipe σ vs)[i]? = some y := ⟨_, List.getElem?_eq_getElem (by rw [wipe_length]; omega)⟩
      obtain ⟨y, h2⟩ := h2
      rw [h2, no _ _ h1, no _ _ h2]
  · rw [wipe_out hi]
    exact h i fun z => hi (hs i z)
section
variable {X : Cx} {T : List Addr} {fi : Ea} {vs is : List Nat} {gt : TG} {st : PD → Rho → Option Rho} {g : Et} {fe : Ev}
theorem comp_core (hgo : GOk X.K T is gt st) (his : ∀ i ∈ is, i ∈ vs) {σ : Slots} {H : Hp} {Q : VK} (h : tS X.K T (fComp vs fi st g fe) σ H Q) : tLc (tI X.K T fi) gt (tT X.K T g) (tS X.K T (fVal fe)) vs σ H Q := by
  obtain ⟨ρ, r, ρ', R, e, q⟩ := h
  obtain ⟨⟨ds, ρ1⟩, e1, e⟩ := obind e
  obtain ⟨⟨ys, ρe⟩, e2, e⟩ := obind e
  by_cases hlen : ys.length ≤ sizeLine
  · simp only [hlen, if_true, Option.some.injEq, Prod.mk.injEq] at e
    obtain ⟨rfl, rfl⟩ := e
    refine ⟨ρ, ds, ρ1, R, e1, fun J H1 P1 I D hD => ?_⟩
    have hle : ∀ b o, H1 b = some o → upd H1 D (.lst []) b = some o := fun b o e => by rw [upd_ne (ne_of_none e hD)]; exact e
    have P0 : PostT X.K T (wR ρ1 vs) (wipe σ vs) H1 (wR ρ1 vs) (upd H1 D (.lst [])) := (PostT.refl (P1.rep.wipe (vs := vs))).ext hle
    refine ⟨fun i m H2 => m = ds.length - i ∧ ∃ ρ2 acc accV rest, PostT X.K T (wR ρ1 vs) (wipe σ vs) H1 (wR ρ2 vs) H2 ∧ H2 D = some (.lst accV) ∧ TrA X.K H2 accV acc ∧ cmpL vs st g fe (ds.drop i) ρ2 = some (rest, ρe) ∧ acc ++ rest = ys,
      ⟨ds.length, rfl, ρ1, [], [], ys, P0, upd_same, .nil, e2, rfl⟩, ?_⟩
    rintro i m H2 ⟨rfl, ρ2, acc, accV, rest, P2, hD2, t2, e3, ey⟩
    have k12 : KeepH H1 H2 := (P1.rep.wipe (vs := vs)).keepOf P2.fm
    have nD2 : ∀ {ρx : Rho} {σx : Slots}, (∀ b, OwA ρx σx b → OwA (wR ρ1 vs) (wipe σ vs) b) → ¬ OwA ρx σx D := fun {ρx σx} hs z => by
      obtain ⟨xs, hx⟩ := (P1.rep.wipe (vs := vs)).ow (hs D z)
      rw [hD] at hx; cases hx
    by_cases hlt : i < ds.length
    · refine .inr ⟨I.go i H2 k12 hlt, fun H' => i < ds.length ∧ ∃ ρ2 acc accV rest, PostT X.K T (wR ρ1 vs) (wipe σ vs) H1 (wR ρ2 vs) H' ∧ H' D = some (.lst accV) ∧ TrA X.K H' accV acc ∧ cmpL vs st g fe (ds.drop (i + 1)) ρ2 = some (rest, ρe) ∧ acc ++ rest = ys,
        fun H' z => ⟨ds.length - (i + 1), by omega, rfl, z.2⟩, fun x H3 y => ?_⟩
      obtain ⟨ext, d, ed, t⟩ := I.yld i H2 x H3 k12 hlt y
      have ed' : ds[i] = d := by
        rw [List.getElem?_eq_getElem hlt] at ed
        exact Option.some.inj ed
      rw [drop_cons hlt, ed'] at e3
      unfold cmpL at e3
      obtain ⟨ρ4, e4, e3⟩ := obind e3
      obtain ⟨⟨b, ρ5⟩, e5, e3⟩ := obind e3
      have P3 := P2.ext ext
      refine hgo x d (wR ρ2 vs) ρ4 (wipe σ vs) H3 _ P3.rep t e4 fun σ4 P4 hs4 hσ4 => ?_
      have hw4 : wipe σ4 vs = wipe σ vs := wipe_eq P4.len hσ4 his
      refine ⟨hw4, ρ4, b, ρ5, P4.rep, e5, fun H5 P5 => ?_⟩
      have W5 := (P3.toW.trans (P4.toW hs4)).trans P5.toW
      -- the way back to the forgotten slots
      have back : ∀ {ρx : Rho} {Hx : Hp}, PostW X.K T (wR ρ1 vs) (wipe σ vs) H1 ρx σ4 Hx → PostT X.K T (wR ρ1 vs) (wipe σ vs) H1 (wR ρx vs) Hx := fun {ρx Hx} W => by
        have Rw := W.rep.wipe (vs := vs)
        rw [hw4] at Rw
        refine ⟨Rw, W.fm, fun b z => W.sub b ?_, fun j x e n => ?_, fun j l e => ?_⟩
        · rw [← hw4] at z
          exact z.wipe
        · obtain ⟨_, hj⟩ := wR_some e n
          obtain ⟨y, e', n'⟩ := W.mon j x e n
          exact ⟨y, by rw [wR_out hj]; exact e', n'⟩
        · obtain ⟨_, hj⟩ := wR_some e (fun z => by cases z)
          obtain ⟨l', e'⟩ := W.bor j l e
          exact ⟨l', by rw [wR_out hj]; exact e'⟩
      have hD3 : H3 D = some (.lst accV) := ext _ _ hD2
      have D5 : H5 D = some (.lst accV) := by
        exact P5.fm.keep D _ (P4.fm.keep D _ hD3 (fun _ z => by cases z) (nD2 P3.sub)) (fun _ z => by cases z) (nD2 fun b z => P3.sub b (hs4 b z))
      have k25 : KeepH H2 H5 := ((keep_ext ext).trans (P3.rep.keepOf P4.fm)).trans (P4.rep.keepOf P5.fm)
      cases b with
      | false =>
        simp only [Bool.false_eq_true, if_false] at e3 ⊢
        exact ⟨hlt, ρ5, acc, accV, rest, back W5, D5, t2.keep k25, e3, ey⟩
      | true =>
        simp only [if_true] at e3 ⊢
        obtain ⟨⟨r6, ρ6⟩, e6, e3⟩ := obind e3
        refine ⟨ρ5, r6, ρ6, P5.rep, e6, fun w H6 P6 => ?_⟩
        cases r6 with
        | val y6 =>
          obtain ⟨⟨zs, ρ7⟩, e7, e8⟩ := omap e3
          cases e8
          have W6 := W5.trans P6.toT.toW
          have D6 : H6 D = some (.lst accV) := by
            exact P6.fm.keep D _ D5 (fun _ z => by cases z) (nD2 fun b z => W5.sub b z)
          have t6 : TrA X.K H6 accV acc := (t2.keep k25).keep (P5.rep.keepOf P6.fm)
          have res : Tr X.K H6 w y6 := P6.res
          have hsz : acc.length < sizeLine := by
            have := congrArg List.length ey
            simp at this
            omega
          have P6b := back W6
          refine ⟨accV, D6, by rw [t6.len]; exact hsz, hlt, ρ6, acc ++ [y6], accV ++ [w], zs, P6b.upd D6 (nD2 P6b.sub) hD, upd_same, ((t6.append (.cons res .nil)).keep (KeepH.lst D6)), e7, by rw [List.append_assoc]; exact ey⟩
        | slot j => simp at e3
        | new l => simp at e3
    · rw [List.drop_eq_nil_of_le (by omega)] at e3
      simp only [cmpL, Option.some.injEq, Prod.mk.injEq] at e3
      obtain ⟨rfl, rfl⟩ := e3
      rw [List.append_nil] at ey
      subst ey
      have U := unw_post P1.rep P2 (fun j hj x e => wR_in hj e)
      have F := P1.trans U
      refine .inl ⟨I.stop i H2 k12 (by omega), q _ H2 (F.toE (r := .new acc) ⟨D, accV, rfl, hD2, t2, fun z => ?_, P1.dom hD⟩)⟩
      obtain ⟨xs, hx⟩ := P1.rep.ow (U.sub D z)
      rw [hD] at hx; cases hx
  · simp only [hlen, if_false] at e
    cases e
theorem s_comp {elt tg iter : Expr} {ifs : List Expr} {scope : Scope} {own : List (Str × Nat)} {pos : Pos} (hc : X.calm = true) (hN : X.N.Nodup) (hi : SI X T tg iter fi) (ok : BlkOk X.N X.env.scope scope own) (hgo : GOk X.K T is gt st) (his : ∀ i ∈ is, i ∈ own.map (·.2))
    (hg : ∀ (s : Shared) (H : Hp) (C : Addr) (cl : List (Str × Addr)) (fp : List Addr), PG (X.blk s H scope (compEnvC scope cl C X.env) fp) tg gt) (ht : ∀ (s : Shared) (H : Hp) (C : Addr) (cl : List (Str × Addr)) (fp : List Addr), STs (X.blk s H scope (compEnvC scope cl C X.env) fp) T ifs g)
    (he : ∀ (s : Shared) (H : Hp) (C : Addr) (cl : List (Str × Addr)) (fp : List Addr), SE (X.blk s H scope (compEnvC scope cl C X.env) fp) T elt fe) (hs : ∀ x, foldedSetIterable iter X.env x = pure x := by intro _; rfl) :
    SE X T (.ListComp elt [⟨tg, iter, ifs, 0⟩] scope pos) (fComp (own.map (·.2)) fi st g fe) :=
  PE.imp (pe_lc (tt := tT X.K T g) (te := tS X.K T (fVal fe)) hc hN hi ok hg ht (fun s H C cl fp => s_val (he s H C cl fp)) hs) fun σ H Q h => comp_core hgo his h
end
end Dv
set_option Elab.async false
set_option linter.all false
set_option maxRecDepth 100000
set_option maxHeartbeats 4000000
namespace Dv
open PySem PySem.Spec PyProof.Rows L2 Gq
def noS (k : Nat) : Rho := List.replicate k .no
section
variable {K : PySem.W.Frag} {T : List Addr} {ρ ρ1 ρ2 : Rho} {σ σ1 σ2 : Slots} {H H1 H2 : Hp} {k : Nat}
theorem app_get {α : Type} {l m : List α} {i : Nat} {x : α} (h : (l ++ m)[i]? = some x) : (i < l.length ∧ l[i]? = some x) ∨ (l.length ≤ i ∧ m[i - l.length]? = some x) := by
  rcases Nat.lt_or_ge i l.length with q | q
  · rw [List.getElem?_append_left q] at h
    exact .inl ⟨q, h⟩
  · rw [List.getElem?_append_right q] at h
    exact .inr ⟨q, h⟩
theorem app_some {i : Nat} {x : Slt} (h : (ρ ++ noS k)[i]? = some x) (n : x ≠ .no) : i < ρ.length ∧ ρ[i]? = some x := by
  rcases app_get h with q | ⟨_, q⟩
  · exact q
  · unfold noS at q
    rw [List.getElem?_replicate] at q
    split at q
    · cases q; exact absurd rfl n
    · cases q
theorem RepS.more (R : RepS K T ρ σ H) : RepS K T (ρ ++ noS k) (σ ++ List.replicate k none) H := by
  have hl := R.len
  refine ⟨fun i d e => ?_, fun i bo l e => ?_, fun i j bo l bo' l' a q1 q2 e1 e2 => ?_, R.tabs, by simp [noS, hl]⟩
  · obtain ⟨hi, e⟩ := app_some e (fun z => by cases z)
    rw [List.getElem?_append_left (by omega)]
    exact R.val i d e
  · obtain ⟨hi, e⟩ := app_some e (fun z => by cases z)
    rw [List.getElem?_append_left (by omega)]
    exact R.own i bo l e
  · obtain ⟨hi, q1⟩ := app_some q1 (fun z => by cases z)
    obtain ⟨hj, q2⟩ := app_some q2 (fun z => by cases z)
    rw [List.getElem?_append_left (by omega)] at e1 e2
    exact R.sep i j bo l bo' l' a q1 q2 e1 e2
theorem OwA.less (hl : ρ.length = σ.length) {b : Addr} (h : OwA (ρ ++ noS k) (σ ++ List.replicate k none) b) : OwA ρ σ b := by
  obtain ⟨i, bo, l, e1, e2⟩ := h
  obtain ⟨hi, e1⟩ := app_some e1 (fun z => by cases z)
  rw [List.getElem?_append_left (by omega)] at e2
  exact ⟨i, bo, l, e1, e2⟩
theorem take_some {i n : Nat} {x : Slt} (h : (ρ.take n)[i]? = some x) : i < n ∧ ρ[i]? = some x := by
  rw [List.getElem?_take] at h
  split at h
  · rename_i q; exact ⟨q, h⟩
  · cases h
theorem RepS.first {n : Nat} (R : RepS K T ρ1 σ1 H) (hn : n ≤ ρ1.length) (hl : σ.length = n) (h : ∀ j, j < n → σ1[j]? = σ[j]?) : RepS K T (ρ1.take n) σ H := by
  refine ⟨fun i d e => ?_, fun i bo l e => ?_, fun i j bo l bo' l' a q1 q2 e1 e2 => ?_, R.tabs, by rw [List.length_take, hl]; omega⟩
  · obtain ⟨hi, e⟩ := take_some e
    rw [← h i hi]
    exact R.val i d e
  · obtain ⟨hi, e⟩ := take_some e
    rw [← h i hi]
    exact R.own i bo l e
  · obtain ⟨hi, q1⟩ := take_some q1
    obtain ⟨hj, q2⟩ := take_some q2
    rw [← h i hi] at e1
    rw [← h j hj] at e2
    exact R.sep i j bo l bo' l' a q1 q2 e1 e2
theorem PostW.less (hl : ρ.length = σ.length) (W : PostW K T (ρ ++ noS k) (σ ++ List.replicate k none) H ρ1 σ1 H1) (h : ∀ j, j < σ.length → σ1[j]? = σ[j]?) : PostT K T ρ σ H (ρ1.take ρ.length) H1 := by
  have l1 : ρ1.length = ρ.length + k := by
    rw [W.rep.len, W.len]; simp [hl]
  refine ⟨W.rep.first (by omega) hl.symm (by rw [hl]; exact h), ⟨fun b o e h1 h2 => W.fm.keep b o e h1 fun z => h2 (z.less hl), W.fm.dom, W.fm.tab⟩, fun b z => ?_, fun i x e n => ?_, fun i l e => ?_⟩
  · obtain ⟨i, bo, l, e1, e2⟩ := z
    obtain ⟨hi, e1⟩ := take_some e1
    exact (W.sub b ⟨i, bo, l, e1, by rw [h i (by omega)]; exact e2⟩).less hl
  · have hi := (List.getElem?_eq_some_iff.mp e).1
    obtain ⟨y, e1, n1⟩ := W.mon i x (by rw [List.getElem?_append_left hi]; exact e) n
    exact ⟨y, by rw [List.getElem?_take, if_pos hi]; exact e1, n1⟩
  · have hi := (List.getElem?_eq_some_iff.mp e).1
    obtain ⟨l', e1⟩ := W.bor i l (by rw [List.getElem?_append_left hi]; exact e)
    exact ⟨l', by rw [List.getElem?_take, if_pos hi]; exact e1⟩
theorem PostT.tab (Q : PostT K T ρ σ H ρ1 H1) (h : TbR H1 H2) : PostT K T ρ σ H ρ1 H2 := by
  have R := Q.rep
  have k : KeepH H1 H2 := ⟨fun b xs e => h.keep b _ e fun _ z => (by cases z), fun b o u e => h.keep b _ e fun _ z => (by cases z)⟩
  refine ⟨⟨fun i d e => ?_, fun i bo l e => ?_, R.sep, fun P' hP' => h.tab _ (R.tabs P' hP'), R.len⟩, ⟨fun b o e h1 h2 => h.keep b o (Q.fm.keep b o e h1 h2) h1, fun b e => Q.fm.dom b (h.dom e), fun P x => h.tab P (Q.fm.tab P x)⟩, Q.sub, Q.mon, Q.bor⟩
  · obtain ⟨v, h1, h2⟩ := R.val i d e
    exact ⟨v, h1, h2.keep k⟩
  · obtain ⟨a, xs, h1, h2, h3⟩ := R.own i bo l e
    exact ⟨a, xs, h1, h.keep a _ h2 fun _ z => (by cases z), h3.keep k⟩
end
def trn (k : Nat) (st : PD → Rho → Option Rho) (g : Et) (fe : Ev) (d : PD) (ρ : Rho) : Option (Option PD × Rho) := (st d (ρ ++ noS k)).bind fun ρ1 => (g ρ1).bind fun q => if q.1 = true then (fVal fe q.2).bind fun p => match p.1 with
    | .val y => some (some y, p.2.take ρ.length)
    | _ => none
  else some (none, q.2.take ρ.length)
section
variable {X : Cx} {K : PySem.W.Frag} {T : List Addr} {is : List Nat} {gt : TG} {st : PD → Rho → Option Rho} {g : Et} {fe : Ev} {k : Nat}
theorem turn_core {ρ ρ' : Rho} {σ : Slots} {H : Hp} {v : V} {d : PD} {oy : Option PD} {R1 : V → Hp → Prop} {R0 : Hp → Prop} (hgo : GOk K T is gt st) (his : ∀ i ∈ is, σ.length ≤ i) (R : RepS K T ρ σ H) (t : Tr K H v d) (e : trn k st g fe d ρ = some (oy, ρ'))
    (h1 : ∀ y w H', oy = some y → PostT K T ρ σ H ρ' H' → Tr K H' w y → R1 w H') (h0 : ∀ H', oy = none → PostT K T ρ σ H ρ' H' → R0 H') :
    gt v (σ ++ List.replicate k none) H fun σ2 H3 => SubS (σ ++ List.replicate k none) σ2 ∧ tT K T g σ2 H3 fun b H4 => if b = true then tS K T (fVal fe) σ2 H4 (fun y H5 => R1 y H5) else R0 H4 := by
  obtain ⟨ρ1, e1, e⟩ := obind e
  obtain ⟨⟨b, ρ2⟩, e2, e⟩ := obind e
  refine hgo v d (ρ ++ noS k) ρ1 _ H _ R.more t e1 fun σ2 P2 hs2 hσ2 => ?_
  have first : ∀ j, j < σ.length → σ2[j]? = σ[j]? := fun j hj => by
    rw [hσ2 j (fun z => by have := his j z; omega), List.getElem?_append_left hj]
  refine ⟨⟨P2.len.symm, fun i w q => ?_⟩, ρ1, b, ρ2, P2.rep, e2, fun H4 P4 => ?_⟩
  · rcases app_get q with ⟨hi, q⟩ | ⟨_, q⟩
    · rw [first i hi]; exact q
    · rw [List.getElem?_replicate] at q
      split at q <;> cases q
  have W := (P2.toW hs2).trans P4.toW
  cases b with
  | false =>
    simp only [Bool.false_eq_true, if_false, Option.some.injEq, Prod.mk.injEq] at e ⊢
    obtain ⟨rfl, rfl⟩ := e
    exact h0 H4 rfl (W.less R.len first)
  | true =>
    simp only [if_true] at e ⊢
    obtain ⟨⟨r3, ρ3⟩, e3, e⟩ := obind e
    refine ⟨ρ2, r3, ρ3, P4.rep, e3, fun w H5 P5 => ?_⟩
    cases r3 with
    | val y =>
      simp only [Option.some.injEq, Prod.mk.injEq] at e
      obtain ⟨rfl, rfl⟩ := e
      exact h1 y w H5 rfl ((W.trans P5.toT.toW).less R.len first) P5.res
    | slot i => simp at e
    | new l => simp at e
def allL (tr : PD → Rho → Option (Option PD × Rho)) : List PD → Rho → Option (Bool × Rho)
  | [], ρ => some (true, ρ)
  | d :: ds, ρ => (tr d ρ).bind fun q => match q.1 with
    | none => allL tr ds q.2
    | some (.bool b) => if b = true then allL tr ds q.2 else some (false, q.2)
    | _ => none
def anyL (tr : PD → Rho → Option (Option PD × Rho)) : List PD → Rho → Option (Bool × Rho)
  | [], ρ => some (false, ρ)
  | d :: ds, ρ => (tr d ρ).bind fun q => match q.1 with
    | none => anyL tr ds q.2
    | some (.bool b) => if b = true then some (true, q.2) else anyL tr ds q.2
    | _ => none
def colL (tr : PD → Rho → Option (Option PD × Rho)) : List PD → Rho → Option (List PD × Rho)
  | [], ρ => some ([], ρ)
  | d :: ds, ρ => (tr d ρ).bind fun q => match q.1 with
    | none => colL tr ds q.2
    | some y => (colL tr ds q.2).map fun r => (y :: r.1, r.2)
def fAllG (k : Nat) (fi : Ea) (st : PD → Rho → Option Rho) (g : Et) (fe : Ev) : Ev := fun ρ => (fi ρ).bind fun q => (allL (trn k st g fe) q.1 q.2).map fun r => (.val (.bool r.1), r.2)
def fAnyG (k : Nat) (fi : Ea) (st : PD → Rho → Option Rho) (g : Et) (fe : Ev) : Ev := fun ρ => (fi ρ).bind fun q => (anyL (trn k st g fe) q.1 q.2).map fun r => (.val (.bool r.1), r.2)
def sumD : List PD → Option Int
  | [] => some 0
  | .int i :: r => (sumD r).map fun j => i + j
  | _ :: _ => none
def fTupG (k : Nat) (fi : Ea) (st : PD → Rho → Option Rho) (g : Et) (fe : Ev) : Ev := fun ρ => (fi ρ).bind fun q => (colL (trn k st g fe) q.1 q.2).bind fun r => if r.1.length ≤ sizeLine then some (.val (.tuple r.1), r.2) else none
def fSumG (k : Nat) (fi : Ea) (st : PD → Rho → Option Rho) (g : Et) (fe : Ev) : Ev := fun ρ => (fi ρ).bind fun q => (colL (trn k st g fe) q.1 q.2).bind fun r => (sumD r.1).map fun j => (.val (.int j), r.2)
theorem all_core {P : Addr} {fi : Ea} {n : Nat} (hP : P ∈ T) (hgo : GOk K T is gt st) (hn : ∀ i ∈ is, n ≤ i) {σ : Slots} (hσ : σ.length = n) {H : Hp} {Q : VK} (h : tS K T (fAllG k fi st g fe) σ H Q) :
    tGen P k (tI K T fi) gt (tT K T g) (tS K T (fVal fe)) stAll fiAll σ H Q := by
  obtain ⟨ρ, r, ρ', R, e, q⟩ := h
  obtain ⟨⟨ds, ρ1⟩, e1, e⟩ := obind e
  obtain ⟨⟨b, ρe⟩, e2, e⟩ := omap e
  cases e
  refine ⟨ρ, ds, ρ1, R, e1, fun J H1 P1 I => ⟨P1.rep.tabs P hP, fun H2 hT => ?_⟩⟩
  refine ⟨fun i m ys H3 => m = ds.length - i ∧ ∃ ρ3, PostT K T ρ1 σ H1 ρ3 H3 ∧ allL (trn k st g fe) (ds.drop i) ρ3 = some (b, ρe), ⟨ds.length, rfl, ρ1, (PostT.refl P1.rep).tab hT, e2⟩, ?_⟩
  rintro i m ys H3 ⟨rfl, ρ3, P3, e3⟩
  have k13 := P3.keep P1.rep
  by_cases hlt : i < ds.length
  · refine .inr ⟨I.go i H3 k13 hlt, fun x H4 y => ?_⟩
    obtain ⟨ext, d, ed, t⟩ := I.yld i H3 x H4 k13 hlt y
    have ed' : ds[i] = d := by
      rw [List.getElem?_eq_getElem hlt] at ed
      exact Option.some.inj ed
    rw [drop_cons hlt, ed'] at e3
    unfold allL at e3
    obtain ⟨⟨oy, ρ5⟩, e5, e3⟩ := obind e3
    have P4 := P3.ext ext
    refine turn_core hgo (fun i hi => by rw [hσ]; exact hn i hi) P4.rep t e5 (fun y w H6 ey P6 t6 => ?_) (fun H6 ey P6 => ?_)
    · subst ey
      cases y with
      | bool c =>
        cases t6
        refine ⟨c, rfl, ?_⟩
        cases c with
        | true =>
          simp only [if_true] at e3 ⊢
          exact ⟨ds.length - (i + 1), by omega, rfl, ρ5, P4.trans P6, e3⟩
        | false =>
          simp only [Bool.false_eq_true, if_false, Option.some.injEq, Prod.mk.injEq] at e3 ⊢
          obtain ⟨rfl, rfl⟩ := e3
          exact q _ H6 ((P1.trans (P4.trans P6)).toE (.bl false))
      | _ => simp at e3
    · subst ey
      exact ⟨ds.length - (i + 1), by omega, rfl, ρ5, P4.trans P6, e3⟩
  · rw [List.drop_eq_nil_of_le (by omega)] at e3
    simp only [allL, Option.some.injEq, Prod.mk.injEq] at e3
    obtain ⟨rfl, rfl⟩ := e3
    exact .inl ⟨I.stop i H3 k13 (by omega), q _ H3 ((P1.trans P3).toE (.bl true))⟩
theorem col_core {P : Addr} {fi : Ea} {n : Nat} {step : List V → V → Hp → (Hp → Prop) → VK → Prop} {fin : List V → Hp → VK → Prop} (hP : P ∈ T) (hgo : GOk K T is gt st) (hn : ∀ i ∈ is, n ≤ i) {σ : Slots} (hσ : σ.length = n) {H : Hp} {Q : VK} {ρ ρ1 ρe : Rho} {ds zs : List PD}
    (R : RepS K T ρ σ H) (e1 : fi ρ = some (ds, ρ1)) (e2 : colL (trn k st g fe) ds ρ1 = some (zs, ρe))
    (hstep : ∀ (ys : List V) (y : V) (H' : Hp) (nx : Hp → Prop) (as : List PD) (a : PD) (rest : List PD), as ++ a :: rest = zs → TrA K H' ys as → Tr K H' y a → nx H' → step ys y H' nx Q)
    (hfin : ∀ (ys : List V) (H' : Hp), PostT K T ρ σ H ρe H' → TrA K H' ys zs → fin ys H' Q) :
    tGen P k (tI K T fi) gt (tT K T g) (tS K T (fVal fe)) step fin σ H Q := by
  refine ⟨ρ, ds, ρ1, R, e1, fun J H1 P1 I => ⟨P1.rep.tabs P hP, fun H2 hT => ?_⟩⟩
  refine ⟨fun i m ys H3 => m = ds.length - i ∧ ∃ ρ3 as rest, PostT K T ρ1 σ H1 ρ3 H3 ∧ colL (trn k st g fe) (ds.drop i) ρ3 = some (rest, ρe) ∧ TrA K H3 ys as ∧ as ++ rest = zs, ⟨ds.length, rfl, ρ1, [], zs, (PostT.refl P1.rep).tab hT, e2, .nil, rfl⟩, ?_⟩
  rintro i m ys H3 ⟨rfl, ρ3, as, rest, P3, e3, tas, eas⟩
  have k13 := P3.keep P1.rep
  by_cases hlt : i < ds.length
  · refine .inr ⟨I.go i H3 k13 hlt, fun x H4 y => ?_⟩
    obtain ⟨ext, d, ed, t⟩ := I.yld i H3 x H4 k13 hlt y
    have ed' : ds[i] = d := by
      rw [List.getElem?_eq_getElem hlt] at ed
      exact Option.some.inj ed
    rw [drop_cons hlt, ed'] at e3
    unfold colL at e3
    obtain ⟨⟨oy, ρ5⟩, e5, e3⟩ := obind e3
    have P4 := P3.ext ext
    have tas4 := tas.keep (keep_ext ext)
    refine turn_core hgo (fun i hi => by rw [hσ]; exact hn i hi) P4.rep t e5 (fun y w H6 ey P6 t6 => ?_) (fun H6 ey P6 => ?_)
    · subst ey
      obtain ⟨⟨zs2, ρ7⟩, e7, e8⟩ := omap e3
      cases e8
      have tas6 := tas4.keep (P6.keep P4.rep)
      exact hstep ys w H6 _ as y zs2 eas tas6 t6 ⟨ds.length - (i + 1), by omega, rfl, ρ5, as ++ [y], zs2, P4.trans P6, e7, tas6.append (.cons t6 .nil), by rw [List.append_assoc]; exact eas⟩
    · subst ey
      exact ⟨ds.length - (i + 1), by omega, rfl, ρ5, as, rest, P4.trans P6, e3, tas4.keep (P6.keep P4.rep), eas⟩
  · rw [List.drop_eq_nil_of_le (by omega)] at e3
    simp only [colL, Option.some.injEq, Prod.mk.injEq] at e3
    obtain ⟨rfl, rfl⟩ := e3
    rw [List.append_nil] at eas
    subst eas
    exact .inl ⟨I.stop i H3 k13 (by omega), hfin ys H3 (P1.trans P3) tas⟩
theorem tup_core {P : Addr} {fi : Ea} {n : Nat} (hP : P ∈ T) (hgo : GOk K T is gt st) (hn : ∀ i ∈ is, n ≤ i) {σ : Slots} (hσ : σ.length = n) {H : Hp} {Q : VK} (h : tS K T (fTupG k fi st g fe) σ H Q) :
    tGen P k (tI K T fi) gt (tT K T g) (tS K T (fVal fe)) Gq.stTup fiTup σ H Q := by
  obtain ⟨ρ, r, ρ', R, e, q⟩ := h
  obtain ⟨⟨ds, ρ1⟩, e1, e⟩ := obind e
  obtain ⟨⟨zs, ρe⟩, e2, e⟩ := obind e
  by_cases hl : zs.length ≤ sizeLine
  · simp only [hl, if_true, Option.some.injEq, Prod.mk.injEq] at e
    obtain ⟨rfl, rfl⟩ := e
    refine col_core hP hgo hn hσ R e1 e2 (fun ys y H' nx as a rest ez t1 t2 hx => ⟨?_, hx⟩) (fun ys H' P' t => ⟨by rw [t.len]; exact hl, fun p o hp ho => ?_⟩)
    · have := congrArg List.length ez
      simp at this
      rw [t1.len]; omega
    · have E := P'.toE (r := .val .none) (v := .non) .non
      exact q _ _ (E.op (r3 := .val (.tuple zs)) (nr_tup hp ho t))
  · simp only [hl, if_false] at e
    cases e
theorem sum_int {K : PySem.W.Frag} {H : Hp} : ∀ {zs : List PD} {ys : List V} {j : Int}, TrA K H ys zs → sumD zs = some j → isum ys = j
  | [], ys, j, t, e => by
    cases t
    simp only [sumD, Option.some.injEq] at e
    simp [isum, e]
  | .int i :: r, ys, j, t, e => by
    cases t with
    | cons t1 t2 =>
      cases t1
      obtain ⟨j', e1, e2⟩ := omap (by simpa [sumD] using e)
      subst e2
      simp [isum, sum_int t2 e1]
  | .none :: r, _, _, _, e => by simp [sumD] at e
  | .bool _ :: r, _, _, _, e => by simp [sumD] at e
  | .str _ :: r, _, _, _, e => by simp [sumD] at e
  | .list _ :: r, _, _, _, e => by simp [sumD] at e
  | .tuple _ :: r, _, _, _, e => by simp [sumD] at e
  | .dict _ :: r, _, _, _, e => by simp [sumD] at e
theorem sumD_mem : ∀ {as : List PD} {a : PD} {rest : List PD} {j : Int}, sumD (as ++ a :: rest) = some j → ∃ i, a = .int i
  | [], a, rest, j, e => by
    cases a with
    | int i => exact ⟨i, rfl⟩
    | _ => simp [sumD] at e
  | b :: as, a, rest, j, e => by
    cases b with
    | int i =>
      obtain ⟨j', e1, e2⟩ := omap (by simpa [sumD] using e)
      exact sumD_mem e1
    | _ => simp [sumD] at e
theorem sum_core {P : Addr} {fi : Ea} {n : Nat} (hP : P ∈ T) (hgo : GOk K T is gt st) (hn : ∀ i ∈ is, n ≤ i) {σ : Slots} (hσ : σ.length = n) {H : Hp} {Q : VK} (h : tS K T (fSumG k fi st g fe) σ H Q) :
    tGen P k (tI K T fi) gt (tT K T g) (tS K T (fVal fe)) stSum fiSum σ H Q := by
  obtain ⟨ρ, r, ρ', R, e, q⟩ := h
  obtain ⟨⟨ds, ρ1⟩, e1, e⟩ := obind e
  obtain ⟨⟨zs, ρe⟩, e2, e⟩ := obind e
  obtain ⟨j, e3, e⟩ := omap e
  cases e
  refine col_core hP hgo hn hσ R e1 e2 (fun ys y H' nx as a rest ez t1 t2 hx => ⟨?_, hx⟩) (fun ys H' P' t => ?_)
  · subst ez
    obtain ⟨i, rfl⟩ := sumD_mem e3
    cases t2
    exact ⟨i, rfl⟩
  · show Q (.int (isum ys)) H'
    rw [sum_int t e3]
    exact q _ _ (P'.toE (.int j))
end
section
variable {X : Cx} {T : List Addr} {N' : List Str} {scope : Scope} {elt tg iter : Expr} {ifs : List Expr} {gpos p pos : Pos} {gt : TG} {is : List Nat} {st : PD → Rho → Option Rho} {g : Et} {fe : Ev} {fi : Ea} {c P : Addr} {k r : Nat}
theorem PE.impL {e : Expr} {t t' : TE} (h : PE X e t') (w : ∀ σ H Q, σ.length = X.N.length → t σ H Q → t' σ H Q) : PE X e t := ⟨fun pins s σ H Q I q => h.run pins s σ H Q I (w σ H Q I.len q)⟩
theorem s_allG (hr : Room (r + 1) X.A) (hgl : Gl X "all") (hm : X.mg "all" = none) (hb : bootBuiltins "all" = some (.builtin "all")) (CX : Cdx X P) (hP : P ∈ T) (S : GScp X scope N') (hk : N'.length = X.N.length + k) (hi : SI X T tg iter fi) (hgo : GOk X.K T is gt st) (hn : ∀ i ∈ is, X.N.length ≤ i)
    (hg : ∀ cl Ca code s0 H0 fp, PG (gcx X X.A.in4.in1 N' (genEnv scope cl Ca code builtinsNs X.env) s0 H0 fp) tg gt) (ht : ∀ cl Ca code s0 H0 fp, STs (gcx X X.A.in4.in1 N' (genEnv scope cl Ca code builtinsNs X.env) s0 H0 fp) T ifs g)
    (hel : ∀ cl Ca code s0 H0 fp, NxC X P gpos code H0 → SE (gcx X X.A.in4.in1 N' (genEnv scope cl Ca code builtinsNs X.env) s0 H0 fp) T elt fe)
    (hs : ∀ v, genFold iter X.env v = pure v := by intro _; rfl) (he : starEach [.GeneratorExp elt [⟨tg, iter, ifs, 0⟩] scope gpos] X.env = (false, eval (.GeneratorExp elt [⟨tg, iter, ifs, 0⟩] scope gpos) X.env) :: starEach [] X.env := by rfl) :
    SE X T (.Call (.Name "all" p) [.GeneratorExp elt [⟨tg, iter, ifs, 0⟩] scope gpos] [] pos) (fAllG k fi st g fe) :=
  PE.impL (pe_allG (tt := tT X.K T g) (te := tS X.K T (fVal fe)) hr hgl hm hb CX S hk hi hg ht (fun cl Ca code s0 H0 fp hN => s_val (hel cl Ca code s0 H0 fp hN)) hs he) fun σ H Q hl q => all_core hP hgo hn hl q
theorem s_tupG (hr : Room (r + 1) X.A) (hgl : Gl X "tuple") (hm : X.mg "tuple" = none) (hb : bootBuiltins "tuple" = some (.type "tuple")) (CX : Cdx X P) (hP : P ∈ T) (S : GScp X scope N') (hk : N'.length = X.N.length + k) (hi : SI X T tg iter fi) (hgo : GOk X.K T is gt st) (hn : ∀ i ∈ is, X.N.length ≤ i)
    (hg : ∀ cl Ca code s0 H0 fp, PG (gcx X X.A.in4.in1 N' (genEnv scope cl Ca code builtinsNs X.env) s0 H0 fp) tg gt) (ht : ∀ cl Ca code s0 H0 fp, STs (gcx X X.A.in4.in1 N' (genEnv scope cl Ca code builtinsNs X.env) s0 H0 fp) T ifs g)
    (hel : ∀ cl Ca code s0 H0 fp, NxC X P gpos code H0 → SE (gcx X X.A.in4.in1 N' (genEnv scope cl Ca code builtinsNs X.env) s0 H0 fp) T elt fe)
    (hs : ∀ v, genFold iter X.env v = pure v := by intro _; rfl) (he : starEach [.GeneratorExp elt [⟨tg, iter, ifs, 0⟩] scope gpos] X.env = (false, eval (.GeneratorExp elt [⟨tg, iter, ifs, 0⟩] scope gpos) X.env) :: starEach [] X.env := by rfl) :
    SE X T (.Call (.Name "tuple" p) [.GeneratorExp elt [⟨tg, iter, ifs, 0⟩] scope gpos] [] pos) (fTupG k fi st g fe) :=
  PE.impL (pe_tupG (tt := tT X.K T g) (te := tS X.K T (fVal fe)) hr hgl hm hb CX S hk hi hg ht (fun cl Ca code s0 H0 fp hN => s_val (hel cl Ca code s0 H0 fp hN)) hs he) fun σ H Q hl q => tup_core hP hgo hn hl q
theorem s_sumG (hr : Room (r + 1) X.A) (hgl : Gl X "sum") (hm : X.mg "sum" = none) (hb : bootBuiltins "sum" = some (.builtin "sum")) (CX : Cdx X P) (hP : P ∈ T) (S : GScp X scope N') (hk : N'.length = X.N.length + k) (hi : SI X T tg iter fi) (hgo : GOk X.K T is gt st) (hn : ∀ i ∈ is, X.N.length ≤ i)
    (hg : ∀ cl Ca code s0 H0 fp, PG (gcx X X.A.in4.in1 N' (genEnv scope cl Ca code builtinsNs X.env) s0 H0 fp) tg gt) (ht : ∀ cl Ca code s0 H0 fp, STs (gcx X X.A.in4.in1 N' (genEnv scope cl Ca code builtinsNs X.env) s0 H0 fp) T ifs g)
    (hel : ∀ cl Ca code s0 H0 fp, NxC X P gpos code H0 → SE (gcx X X.A.in4.in1 N' (genEnv scope cl Ca code builtinsNs X.env) s0 H0 fp) T elt fe)
    (hs : ∀ v, genFold iter X.env v = pure v := by intro _; rfl) (he : starEach [.GeneratorExp elt [⟨tg, iter, ifs, 0⟩] scope gpos] X.env = (false, eval (.GeneratorExp elt [⟨tg, iter, ifs, 0⟩] scope gpos) X.env) :: starEach [] X.env := by rfl) :
    SE X T (.Call (.Name "sum" p) [.GeneratorExp elt [⟨tg, iter, ifs, 0⟩] scope gpos] [] pos) (fSumG k fi st g fe) :=
  PE.impL (pe_sumG (tt := tT X.K T g) (te := tS X.K T (fVal fe)) hr hgl hm hb CX S hk hi hg ht (fun cl Ca code s0 H0 fp hN => s_val (hel cl Ca code s0 H0 fp hN)) hs he) fun σ H Q hl q => sum_core hP hgo hn hl q
end
end Dv
set_option Elab.async false
set_option linter.all false
set_option maxRecDepth 100000
set_option maxHeartbeats 4000000
namespace Dv
open PySem PySem.Spec PyProof.Rows L2 Gq
abbrev Fn0 := List PD → Option PD
abbrev Fn1 := List PD → List PD → Option (PD × List PD)
structure Aft (T : List Addr) (a : Option Addr) (H H' : Hp) : Prop where
  keep : ∀ b o, H b = some o → (∀ qs, o ≠ .tbl qs) → a ≠ some b → H' b = some o
  dom : ∀ b, H' b = none → H b = none
  tab : ∀ P, TabR H P → TabR H' P
theorem Aft.tabs {T : List Addr} {a : Option Addr} {H H' : Hp} (A : Aft T a H H') (h : ∀ P ∈ T, TabR H P) : ∀ P ∈ T, TabR H' P := fun P hP => A.tab P (h P hP)
def sp0 (K : PySem.W.Frag) (T : List Addr) (F : Fn0) : Sp := fun vs H Q _ => ∃ ds res, (∀ P ∈ T, TabR H P) ∧ TrA K H vs ds ∧ F ds = some res ∧ ∀ v H', Aft T none H H' → Tr K H' v res → Q v H'
def sp1 (K : PySem.W.Frag) (T : List Addr) (F : Fn1) : Sp := fun vs H Q _ => ∃ a vs' xs l ds res l', vs = .ref a :: vs' ∧ (∀ P ∈ T, TabR H P) ∧ H a = some (.lst xs) ∧ TrA K H xs l ∧ TrA K H vs' ds ∧ F l ds = some (res, l') ∧
  ∀ v H' xs', Aft T (some a) H H' → H' a = some (.lst xs') → TrA K H' xs' l' → Tr K H' v res → Q v H'
def run0 (np nN : Nat) (body : Es) : Fn0 := fun ds => if ds.length = np then (body (ds.map Slt.val ++ noS (nN - np))).bind fun w => match w with
    | .rt d _ => some d
    | .nx _ => some .none
    | _ => none
  else none
def out0 (d : PD) (ρ : Rho) : Option (PD × List PD) := match ρ[(0 : Nat)]? with
  | some (.own true l) => some (d, l)
  | _ => none
def run1 (np nN : Nat) (body : Es) : Fn1 := fun l ds => if ds.length + 1 = np then (body (.own true l :: (ds.map Slt.val ++ noS (nN - np)))).bind fun w => match w with
    | .rt d ρ => out0 d ρ
    | .nx ρ => out0 .none ρ
    | _ => none
  else none
section
variable {K : PySem.W.Frag} {T : List Addr} {H : Hp}
theorem Aft.keepH {a : Option Addr} {H' : Hp} (A : Aft T a H H') (hT : ∀ P ∈ T, TabR H P) (ha : ∀ b, a = some b → ∃ xs, H b = some (.lst xs)) : KeepH H H' := by
  have go : ∀ b o, H b = some o → (∀ xs, o ≠ .lst xs) → (∀ ps, o ≠ .tbl ps) → H' b = some o := fun b o e h1 h2 => by
    refine A.keep b o e h2 fun z => ?_
    · obtain ⟨xs, e'⟩ := ha b z
      rw [e] at e'; cases e'
      exact h1 xs rfl
  exact ⟨fun b xs e => go b _ e (fun _ z => by cases z) (fun _ z => by cases z), fun b o u e => go b _ e (fun _ z => by cases z) (fun _ z => by cases z)⟩
theorem map_get {vs : List V} {ds : List PD} (t : TrA K H vs ds) {n : Nat} {i : Nat} {x : Slt} (e : (ds.map Slt.val ++ noS n)[i]? = some x) (hx : x ≠ .no) : ∃ d v, x = .val d ∧ (vs.map some ++ List.replicate n none)[i]? = some (some v) ∧ Tr K H v d := by
  obtain ⟨hi, e⟩ := app_some e hx
  rw [List.length_map] at hi
  rw [List.getElem?_map] at e
  cases h : ds[i]? with
  | none => rw [h] at e; cases e
  | some d =>
    rw [h] at e
    cases e
    obtain ⟨v, e1, e2⟩ := t.get h
    refine ⟨d, v, rfl, ?_, e2⟩
    rw [List.getElem?_append_left (by rw [List.length_map, t.len]; exact hi), List.getElem?_map, e1]; rfl
theorem rep_start0 {vs : List V} {ds : List PD} (hT : ∀ P ∈ T, TabR H P) (t : TrA K H vs ds) (n : Nat) : RepS K T (ds.map Slt.val ++ noS n) (vs.map some ++ List.replicate n none) H := by
  refine ⟨fun i d e => ?_, fun i bo l e => ?_, fun i j bo l bo' l' a q1 q2 e1 e2 => ?_, hT, by simp [noS, t.len]⟩
  · obtain ⟨d', v, e1, e2, e3⟩ := map_get t e (fun z => by cases z)
    cases e1
    exact ⟨v, e2, e3⟩
  · obtain ⟨d', v, e1, _⟩ := map_get t e (fun z => by cases z)
    cases e1
  · obtain ⟨d', v, e1, _⟩ := map_get t q1 (fun z => by cases z)
    cases e1
theorem rep_start1 {a : Addr} {xs : List V} {l : List PD} {vs : List V} {ds : List PD} (hT : ∀ P ∈ T, TabR H P) (ha : H a = some (.lst xs)) (tl : TrA K H xs l) (t : TrA K H vs ds) (n : Nat) : RepS K T (.own true l :: (ds.map Slt.val ++ noS n)) (some (.ref a) :: (vs.map some ++ List.replicate n none)) H := by
  have R := rep_start0 hT t n
  refine ⟨fun i d e => ?_, fun i bo m e => ?_, fun i j bo m bo' m' b q1 q2 e1 e2 => ?_, hT, by simp [noS, t.len]⟩
  · cases i with
    | zero => simp at e
    | succ i => simpa using R.val i d (by simpa using e)
  · cases i with
    | zero =>
      simp at e
      obtain ⟨rfl, rfl⟩ := e
      exact ⟨a, xs, rfl, ha, tl⟩
    | succ i => simpa using R.own i bo m (by simpa using e)
  · cases i with
    | zero =>
      cases j with
      | zero => rfl
      | succ j =>
        obtain ⟨d', v, z, _⟩ := map_get t (show (ds.map Slt.val ++ noS n)[j]? = some (.own bo' m') by simpa using q2) (fun z => by cases z)
        cases z
    | succ i =>
      obtain ⟨d', v, z, _⟩ := map_get t (show (ds.map Slt.val ++ noS n)[i]? = some (.own bo m) by simpa using q1) (fun z => by cases z)
      cases z
end
theorem fn0 {P : Program} {w : World} {K : PySem.W.Frag} {mg : Str → Option Value} {base : Heap} {T : List Addr} {k : Nat} {f : Addr} {name qual : Str} {params : Arguments} {body : List Stmt} {scope : Scope} {dV kV doc pm cdv ct oc : Value} {an od : Option Addr}
    {osl : Array (Option Value)} {N ps : List Str} {b : Es} (lk : K.lookup f = some ⟨oc, od, .func (PySem.W.fnOf name qual params body scope dV kV doc pm an cdv ct), osl⟩) (hcd : PySem.W.codeIn K cdv qual = true) (S : FnScope N ps scope)
    (hbody : ∀ (A : Around) (outer : List Env) (s : Shared) (H : Hp) (E : XK), Room k (A.deeper (envOfC qual scope s.heap.objs.size f cdv)) → SSs (cxOf CX0 P w K mg base N qual scope f cdv A outer s H E) T body b) :
    FnOk P w K mg base CX0 (k + 1) f (PySem.W.fnOf name qual params body scope dV kV doc pm an cdv ct) ps (sp0 K T (run0 ps.length N.length b)) := by
  refine fn_of lk hcd S (fun vs H Q E h => ?_) fun A outer s H vs Q E hr h => ⟨_, hbody A outer s H E hr, ?_⟩
  · obtain ⟨ds, res, hT, t, e, q⟩ := h
    unfold run0 at e
    split at e
    · rename_i hl
      rw [t.len]; exact hl
    · cases e
  · obtain ⟨ds, res, hT, t, e, q⟩ := h
    unfold run0 at e
    split at e
    · rename_i hl
      obtain ⟨w', e1, e2⟩ := obind e
      have hlv : vs.length = ps.length := by rw [t.len]; exact hl
      have hst : L2.start N vs = vs.map some ++ List.replicate (N.length - ps.length) none := by unfold L2.start; rw [hlv]
      rw [hst]
      have R := rep_start0 hT t (N.length - ps.length)
      have aft : ∀ {ρ' : Rho} {σ' : Slots} {H' : Hp}, PostS K T (ds.map Slt.val ++ noS (N.length - ps.length)) (vs.map some ++ List.replicate (N.length - ps.length) none) H ρ' σ' H' → Aft T none H H' := fun {ρ' σ' H'} P => by
        refine ⟨fun b o e h1 _ => P.fm.keep b o e h1 fun z => ?_, P.fm.dom, P.fm.tab⟩
        obtain ⟨i, bo, l, q1, q2⟩ := z
        obtain ⟨d', v, z, _⟩ := map_get t q1 (fun z => by cases z)
        cases z
      refine ⟨_, w', R, e1, ?_⟩
      cases w' with
      | rt d ρ' =>
        simp only [Option.some.injEq] at e2
        subst e2
        exact fun v σ' H' P' t' => q v H' (aft P') t'
      | nx ρ' =>
        simp only [Option.some.injEq] at e2
        subst e2
        exact fun σ' H' P' => q _ H' (aft P') .non
      | bk ρ' => cases e2
      | ct ρ' => cases e2
    · cases e
theorem fn1 {P : Program} {w : World} {K : PySem.W.Frag} {mg : Str → Option Value} {base : Heap} {T : List Addr} {k : Nat} {f : Addr} {name qual : Str} {params : Arguments} {body : List Stmt} {scope : Scope} {dV kV doc pm cdv ct oc : Value} {an od : Option Addr}
    {osl : Array (Option Value)} {N ps : List Str} {b : Es} (lk : K.lookup f = some ⟨oc, od, .func (PySem.W.fnOf name qual params body scope dV kV doc pm an cdv ct), osl⟩) (hcd : PySem.W.codeIn K cdv qual = true) (S : FnScope N ps scope) (hNp : ps.length ≤ N.length)
    (hbody : ∀ (A : Around) (outer : List Env) (s : Shared) (H : Hp) (E : XK), Room k (A.deeper (envOfC qual scope s.heap.objs.size f cdv)) → SSs (cxOf CX0 P w K mg base N qual scope f cdv A outer s H E) T body b) :
    FnOk P w K mg base CX0 (k + 1) f (PySem.W.fnOf name qual params body scope dV kV doc pm an cdv ct) ps (sp1 K T (run1 ps.length N.length b)) := by
  refine fn_of lk hcd S (fun vs H Q E h => ?_) fun A outer s H vs Q E hr h => ⟨_, hbody A outer s H E hr, ?_⟩
  · obtain ⟨a, vs', xs, l, ds, res, l', rfl, hT, ha, tl, t, e, q⟩ := h
    unfold run1 at e
    split at e
    · rename_i hl
      rw [List.length_cons, t.len]; exact hl
    · cases e
  · obtain ⟨a, vs', xs, l, ds, res, l', rfl, hT, ha, tl, t, e, q⟩ := h
    unfold run1 at e
    split at e
    · rename_i hl
      obtain ⟨w', e1, e2⟩ := obind e
      have hlv : (V.ref a :: vs').length = ps.length := by rw [List.length_cons, t.len]; exact hl
      have hst : L2.start N (V.ref a :: vs') = some (.ref a) :: (vs'.map some ++ List.replicate (N.length - ps.length) none) := by unfold L2.start; rw [hlv]; rfl
      rw [hst]
      have R := rep_start1 hT ha tl t (N.length - ps.length)
      have fin : ∀ {ρ' : Rho} {σ' : Slots} {H' : Hp} {d : PD} {v : V}, PostS K T (.own true l :: (ds.map Slt.val ++ noS (N.length - ps.length))) (some (.ref a) :: (vs'.map some ++ List.replicate (N.length - ps.length) none)) H ρ' σ' H' → out0 d ρ' = some (res, l') → Tr K H' v d → Q v H' := fun {ρ' σ' H' d v} P e3 t3 => by
        unfold out0 at e3
        split at e3
        · rename_i l2 q2
          simp only [Option.some.injEq, Prod.mk.injEq] at e3
          obtain ⟨rfl, rfl⟩ := e3
          obtain ⟨_, q3⟩ := P.bor 0 l (by simp)
          obtain ⟨a', xs', h1, h2, h3⟩ := P.rep.own 0 true _ q2
          rw [q3] at h1
          simp at h1
          subst h1
          refine q v H' xs' ⟨fun b o e h1 h2 => P.fm.keep b o e h1 fun z => ?_, P.fm.dom, P.fm.tab⟩ h2 h3 t3
          obtain ⟨i, bo, m, q1, q2⟩ := z
          cases i with
          | zero =>
            simp at q2
            exact h2 (by rw [q2])
          | succ i =>
            obtain ⟨d', v, z, _⟩ := map_get t (show (ds.map Slt.val ++ noS (N.length - ps.length))[i]? = some (.own bo m) by simpa using q1) (fun z => by cases z)
            cases z
        · cases e3
      refine ⟨_, w', R, e1, ?_⟩
      cases w' with
      | rt d ρ' => exact fun v σ' H' P' t' => fin P' e2 t'
      | nx ρ' => exact fun σ' H' P' => fin P' e2 .non
      | bk ρ' => cases e2
      | ct ρ' => cases e2
    · cases e
def fCall0 (F : Fn0) (fs : Ea) : Ev := fun ρ => (fs ρ).bind fun q => (F q.1).map fun d => (.val d, q.2)
def fCall1 (F : Fn1) (i : Nat) (fs : Ea) : Ev := fun ρ => match ρ[i]? with
  | some (.own _ _) => (fs ρ).bind fun q => match q.2[i]? with
    | some (.own bo l) => (F l q.1).map fun r => (.val r.1, q.2.set i (.own bo r.2))
    | _ => none
  | _ => none
section
variable {X : Cx} {T : List Addr} {e : Expr} {es : List Expr} {fs : Ea} {pos p pos1 : Pos} {x y : Str} {k : Nat} {f : Addr} {fd : FuncData} {ps : List Str} {F0 : Fn0} {F1 : Fn1}
theorem PostT.aft {K : PySem.W.Frag} {ρ ρ1 : Rho} {σ : Slots} {H H1 H2 : Hp} (P : PostT K T ρ σ H ρ1 H1) (A : Aft T none H1 H2) : PostT K T ρ σ H ρ1 H2 := by
  have k : KeepH H1 H2 := A.keepH P.rep.tabs fun b z => by cases z
  refine ⟨⟨fun i d e => ?_, fun i bo l e => ?_, P.rep.sep, A.tabs P.rep.tabs, P.rep.len⟩, ⟨fun b o e h1 h2 => A.keep b o (P.fm.keep b o e h1 h2) h1 (fun z => by cases z), fun b e => P.fm.dom b (A.dom b e), fun Q x => A.tab Q (P.fm.tab Q x)⟩, P.sub, P.mon, P.bor⟩
  · obtain ⟨v, h1, h2⟩ := P.rep.val i d e
    exact ⟨v, h1, h2.keep k⟩
  · obtain ⟨a, xs, h1, h2, h3⟩ := P.rep.own i bo l e
    exact ⟨a, xs, h1, A.keep a _ h2 (fun _ z => by cases z) (fun z => by cases z), h3.keep k⟩
theorem s_call0 (F : FnOk X.prog X.w X.K X.mg X.base CX0 k f fd ps (sp0 X.K T F0)) (hr : Room k X.A) (hg : Gl X x) (hm : X.mg x = some (.ref f)) (hk : PySem.W.keepIn X.K (.ref f) = true) (hb : Binds X.K fd ps []) (h : SA X T (e :: es) fs)
    (hdb : (x == ("__debug__" : Str)) = false := by decide) (he : starEach (e :: es) X.env = (false, eval e X.env) :: starEach es X.env := by rfl) (hpl : (backTo pos (starEach es X.env)).any (·.1) = false := by rfl) : SE X T (.Call (.Name x p) (e :: es) [] pos) (fCall0 F0 fs) := by
  refine PE.imp (pe_call (E := E0) F hr hg hm hk hb .nil pass0 h hdb he hpl) fun σ H Q ⟨ρ, r, ρ', R, e, q⟩ => ?_
  obtain ⟨⟨ds, ρ1⟩, e1, e2⟩ := obind e
  obtain ⟨d, e3, e4⟩ := omap e2
  cases e4
  refine ⟨ρ, ds, _, R, e1, fun vs H1 P t => ?_⟩
  show sp0 X.K T F0 (vs ++ []) H1 Q E0
  rw [List.append_nil]
  exact ⟨ds, d, P.rep.tabs, t, e3, fun v H2 A t2 => q v H2 ((P.aft A).toE t2)⟩
theorem s_call1 (i : Nat) (F : FnOk X.prog X.w X.K X.mg X.base CX0 k f fd ps (sp1 X.K T F1)) (hr : Room k X.A) (hg : Gl X x) (hm : X.mg x = some (.ref f)) (hk : PySem.W.keepIn X.K (.ref f) = true) (hb : Binds X.K fd ps []) (h : SA X T es fs)
    (hN : X.N[i]? = some y := by rfl) (hv : Vis X.env.scope y := by first | exact Or.inl rfl | exact Or.inr (Or.inl rfl) | exact Or.inr (Or.inr rfl)) (hd : (y == ("__debug__" : Str)) = false := by decide) (hcd : (y == ("__classdict__" : Str)) = false := by decide)
    (hdb : (x == ("__debug__" : Str)) = false := by decide) (he : starEach (.Name y pos1 :: es) X.env = (false, eval (.Name y pos1) X.env) :: starEach es X.env := by rfl) (hpl : (backTo pos (starEach es X.env)).any (·.1) = false := by rfl) : SE X T (.Call (.Name x p) (.Name y pos1 :: es) [] pos) (fCall1 F1 i fs) := by
  refine PE.imp (pe_call (E := E0) F hr hg hm hk hb .nil pass0 (pa_cons (pe_var hN hv hd hcd) h he) hdb he hpl) fun σ H Q ⟨ρ, r, ρ', R, e, q⟩ => ?_
  unfold fCall1 at e
  split at e
  rotate_left
  · cases e
  rename_i bo0 l0 hi0
  obtain ⟨a, xs0, ha, _, _⟩ := R.own i bo0 l0 hi0
  obtain ⟨⟨ds, ρ1⟩, e1, e2⟩ := obind e
  simp only at e2
  split at e2
  · rename_i bo l hi
    obtain ⟨⟨d, l'⟩, e3, e4⟩ := omap e2
    cases e4
    refine ⟨.ref a, ha, ρ, ds, ρ1, R, e1, fun vs H1 P t => ?_⟩
    obtain ⟨a', xs, h1, h2, h3⟩ := P.rep.own i bo l hi
    rw [ha] at h1
    cases h1
    show sp1 X.K T F1 (V.ref a :: vs ++ []) H1 Q E0
    rw [List.append_nil]
    refine ⟨a, vs, xs, l, ds, d, l', rfl, P.rep.tabs, h2, h3, t, e3, fun v H2 xs' A ha2 t2 t3 => ?_⟩
    have kk : KeepH H1 H2 := A.keepH P.rep.tabs fun b z => by cases z; exact ⟨xs, h2⟩
    have own1 : OwA ρ1 σ a := ⟨i, bo, l, hi, ha⟩
    have own_of : ∀ {b : Addr}, OwA (ρ1.set i (.own bo l')) σ b → OwA ρ1 σ b := fun {b} z => by
      obtain ⟨j, bo', m', q1, q2⟩ := z
      rcases set_get q1 with ⟨rfl, _⟩ | ⟨_, q1⟩
      · exact ⟨i, bo, l, hi, q2⟩
      · exact ⟨j, bo', m', q1, q2⟩
    refine q v H2 ⟨⟨fun j d' e => ?_, fun j b1 m1 e => ?_, fun j j' b1 m1 b2 m2 b q1 q2 p1 p2 => ?_, A.tabs P.rep.tabs, by rw [List.length_set]; exact P.rep.len⟩, ⟨fun b o e q1 q2 => ?_, fun b e => P.fm.dom b (A.dom b e), fun Q x => A.tab Q (P.fm.tab Q x)⟩, fun b z => P.sub b (own_of z), mon_set (fun z => by cases z) P.mon, fun j m e => ?_, t3⟩
    · rcases set_get e with ⟨_, e'⟩ | ⟨ne, e'⟩
      · cases e'
      · obtain ⟨w, q1, q2⟩ := P.rep.val j d' e'
        exact ⟨w, q1, q2.keep kk⟩
    · rcases set_get e with ⟨rfl, e'⟩ | ⟨ne, e'⟩
      · cases e'
        exact ⟨a, xs', ha, ha2, t2⟩
      · obtain ⟨b, zs, q1, q2, q3⟩ := P.rep.own j b1 m1 e'
        have nb : b ≠ a := fun z => by
          rw [z] at q1
          exact ne (P.rep.sep i j bo l b1 m1 a hi e' ha q1)
        exact ⟨b, zs, q1, A.keep b _ q2 (fun _ z => by cases z) (fun z => nb (Option.some.inj z).symm), q3.keep kk⟩
    · have back : ∀ {j : Nat} {b' : Bool} {m' : List PD}, (ρ1.set i (.own bo l'))[j]? = some (.own b' m') → ∃ b'' m'', ρ1[j]? = some (.own b'' m'') := fun {j b' m'} q => by
        rcases set_get q with ⟨rfl, _⟩ | ⟨_, q'⟩
        · exact ⟨_, _, hi⟩
        · exact ⟨_, _, q'⟩
      obtain ⟨_, _, z1⟩ := back q1
      obtain ⟨_, _, z2⟩ := back q2
      exact P.rep.sep j j' _ _ _ _ b z1 z2 p1 p2
    · have nb : b ≠ a := fun z => q2 (P.sub b (z ▸ own1))
      exact A.keep b o (P.fm.keep b o e q1 q2) q1 fun z => nb (Option.some.inj z).symm
    · obtain ⟨m', e1'⟩ := P.bor j m e
      by_cases hj : i = j
      · subst hj
        rw [hi] at e1'
        cases e1'
        exact ⟨l', by rw [List.getElem?_set_self (List.getElem?_eq_some_iff.mp hi).1]⟩
      · exact ⟨m', by rw [List.getElem?_set_ne hj]; exact e1'⟩
  · cases e2
end
end Dv
set_option Elab.async false
set_option linter.all false
set_option maxRecDepth 100000
set_option maxHeartbeats 4000000
namespace Dv
open PySem PySem.Spec PyProof.Rows L2 Gq
section
variable {X : Cx} {K : PySem.W.Frag}
theorem opr_or {f : Value → Value → Sem Value} {r r' : R2} (h : OpR X f r) (h' : OpR X f r') : OpR X f (fun x y H Q => r x y H Q ∨ r' x y H Q) := by
  intro pins s σ H x y v u Q I rx ry q
  rcases q with q | q
  · exact h pins s σ H x y v u Q I rx ry q
  · exact h' pins s σ H x y v u Q I rx ry q
def rCatL (K : PySem.W.Frag) : R2 := fun x y H Q => ∃ a b xs ys, x = .ref a ∧ y = .ref b ∧ SqL K H a xs ∧ SqL K H b ys ∧ xs.length + ys.length ≤ sizeLine ∧ ∀ p, H p = none → Q (.ref p) (upd H p (.lst (xs ++ ys)))
theorem op_catL : OpR X (binaryOp .Add) (rCatL X.K) := by
  intro pins s σ H x y v u Q I rx ry h
  obtain ⟨a, b, xs, ys, rfl, rfl, ha, hb, hz, q⟩ := h
  cases rx
  cases ry
  obtain ⟨its, r, ⟨⟨cls, dd, data, sl⟩, n, ho, hc, hdn, hd⟩, hl⟩ := I.list ha
  obtain ⟨its2, r2, ⟨⟨cls2, dd2, data2, sl2⟩, n2, ho2, hc2, hdn2, hd2⟩, hl2⟩ := I.list hb
  simp only at hc hd hc2 hd2
  subst hc hd hc2 hd2
  have e : its.toArray ++ its2.toArray = (its ++ its2).toArray := by simp
  have l1 := r.length
  have l2 := r2.length
  refine concat_meets ⟨_, ho, rfl⟩ ⟨_, ho2, rfl⟩ noFill_list_add seq_list_add PySem.F.slot_list_add PySem.F.entry_list_add (PySem.F.args_list_add_2 _ _) (list_addW a b its.toArray its2.toArray n n2 dd dd2 sl sl2 (by simp only [List.size_toArray]; omega)) ⟨ho, ho2, ?_⟩
  rw [e]
  exact ⟨.ref _, _, I.lnew (t' := s.toks) (r.append r2) (by rw [List.length_append]; omega), rfl, q _ I.fresh⟩
def hAdd : PD → PD → Option Rs
  | .int i, .int j => some (.val (.int (i + j)))
  | .list l, .list m => if l.length + m.length ≤ sizeLine then some (.new (l ++ m)) else none
  | .tuple l, .tuple m => if l.length + m.length ≤ sizeLine then some (.val (.tuple (l ++ m))) else none
  | _, _ => none
def rAdd (K : PySem.W.Frag) : R2 := fun x y H Q => rI0 (fun i j => .int (i + j)) x y H Q ∨ rCatL K x y H Q ∨ rCatF K x y H Q
theorem o_add : OpR X (binaryOp .Add) (rAdd X.K) := opr_or op_add (opr_or op_catL op_catF)
theorem b_add : BinR K (rAdd K) hAdd := by
  intro H x y d1 d2 r Q t1 t2 e q
  cases d1 <;> cases d2 <;> simp only [hAdd] at e <;> first | cases e; done | skip
  case int.int i j =>
    cases e
    exact .inl ⟨i, j, t1.int, t2.int, q _ _ (nr_val (.int _))⟩
  case list.list l m =>
    split at e
    case isTrue hl =>
      cases e
      obtain ⟨a, xs, rfl, h1, t1⟩ := t1.seq
      obtain ⟨b, ys, rfl, h2, t2⟩ := t2.seq
      exact .inr (.inl ⟨a, b, xs, ys, rfl, rfl, h1, h2, by rw [t1.len, t2.len]; exact hl, fun p hp => q _ _ (nr_new hp (t1.append t2))⟩)
    case isFalse => cases e
  case tuple.tuple l m =>
    split at e
    case isTrue hl =>
      cases e
      obtain ⟨a, xs, rfl, h1, t1⟩ := t1.tseq
      obtain ⟨b, ys, rfl, h2, t2⟩ := t2.tseq
      refine .inr (.inr ⟨a, b, xs, ys, rfl, rfl, h1.sqt, h2.sqt, by rw [t1.len, t2.len]; exact hl, fun z => ?_, fun z => ?_, fun p o hp ho => q _ _ (nr_tup hp ho (t1.append t2))⟩)
      · have e1 := t1.len
        rw [z] at e1
        have e2 : l = [] := List.length_eq_zero_iff.mp e1.symm
        rw [e2] at q
        exact q _ _ (nr_val (.tup h2 t2))
      · have e1 := t2.len
        rw [z] at e1
        have e2 : m = [] := List.length_eq_zero_iff.mp e1.symm
        rw [e2, List.append_nil] at q
        exact q _ _ (nr_val (.tup h1 t1))
    case isFalse => cases e
def hI (f : Int → Int → Option Int) : PD → PD → Option Rs
  | .int i, .int j => (f i j).map fun k => .val (.int k)
  | _, _ => none
theorem b_i {C : Int → Int → Prop} {g : Int → Int → Int} {f : Int → Int → Option Int} (hf : ∀ i j k, f i j = some k → C i j ∧ k = g i j) : BinR K (rI C fun i j => .int (g i j)) (hI f) := by
  intro H x y d1 d2 r Q t1 t2 e q
  cases d1 <;> cases d2 <;> simp only [hI] at e <;> first | cases e; done | skip
  case int.int i j =>
    obtain ⟨k, e1, e2⟩ := omap e
    cases e2
    obtain ⟨c, rfl⟩ := hf i j k e1
    exact ⟨i, j, t1.int, t2.int, c, q _ _ (nr_val (.int _))⟩
theorem b_i0 {g : Int → Int → Int} : BinR K (rI0 fun i j => .int (g i j)) (hI fun i j => some (g i j)) := by
  intro H x y d1 d2 r Q t1 t2 e q
  cases d1 <;> cases d2 <;> simp only [hI] at e <;> first | cases e; done | skip
  case int.int i j =>
    cases e
    exact ⟨i, j, t1.int, t2.int, q _ _ (nr_val (.int _))⟩
def iSub (i j : Int) : Option Int := some (i - j)
def iMul (i j : Int) : Option Int := if i.natAbs.log2 + j.natAbs.log2 < 1000000 then some (i * j) else none
def iDiv (i j : Int) : Option Int := if 0 < j ∧ j.natAbs.log2 < 9000 then some (i / j) else none
def iMod (i j : Int) : Option Int := if 0 < j then some (i % j) else none
def iPow (i j : Int) : Option Int := if 0 ≤ j ∧ j ≤ 1000000 ∧ i.natAbs < 2 ^ 64 then some (i ^ j.toNat) else none
theorem ite_some {α : Type} {P : Prop} [Decidable P] {a b : α} (h : (if P then some a else none) = some b) : P ∧ b = a := by
  split at h
  · cases h; exact ⟨by assumption, rfl⟩
  · cases h
theorem b_sub : BinR K (rI0 fun i j => .int (i - j)) (hI iSub) := b_i0
theorem b_mul : BinR K (rI CMulW fun i j => .int (i * j)) (hI iMul) := b_i fun _ _ _ h => by
  obtain ⟨h1, h2⟩ := ite_some h
  exact ⟨h1, h2⟩
theorem b_div : BinR K (rI CDivW fun i j => .int (i / j)) (hI iDiv) := b_i fun _ _ _ h => by
  obtain ⟨h1, h2⟩ := ite_some h
  exact ⟨h1, h2⟩
theorem b_mod : BinR K (rI (fun _ j => 0 < j) fun i j => .int (i % j)) (hI iMod) := b_i fun _ _ _ h => by
  obtain ⟨h1, h2⟩ := ite_some h
  exact ⟨h1, h2⟩
theorem b_pow : BinR K (rI CPow fun i j => .int (i ^ j.toNat)) (hI iPow) := b_i fun _ _ _ h => by
  obtain ⟨h1, h2⟩ := ite_some h
  exact ⟨h1, h2⟩
def hB (g : Int → Int → Bool) : PD → PD → Option Rs
  | .int i, .int j => some (.val (.bool (g i j)))
  | _, _ => none
theorem b_b {g : Int → Int → Bool} : BinR K (rI0 fun i j => .bl (g i j)) (hB g) := by
  intro H x y d1 d2 r Q t1 t2 e q
  cases d1 <;> cases d2 <;> simp only [hB] at e <;> first | cases e; done | skip
  case int.int i j =>
    cases e
    exact ⟨i, j, t1.int, t2.int, q _ _ (nr_val (.bl _))⟩
def iLt (i j : Int) : Bool := decide (i < j)
def iLe (i j : Int) : Bool := decide (i ≤ j)
def iGt (i j : Int) : Bool := decide (j < i)
def iGe (i j : Int) : Bool := decide (j ≤ i)
theorem b_lt : BinR K (rI0 fun i j => .bl (decide (i < j))) (hB iLt) := b_b
theorem b_le : BinR K (rI0 fun i j => .bl (decide (i ≤ j))) (hB iLe) := b_b
theorem b_gt : BinR K (rI0 fun i j => .bl (decide (j < i))) (hB iGt) := b_b
theorem b_ge : BinR K (rI0 fun i j => .bl (decide (j ≤ i))) (hB iGe) := b_b
def hEq (neg : Bool) (d e : PD) : Option Rs := if SeqAt.shaped d = true ∧ SeqAt.shaped e = true then some (.val (.bool (if neg then !PyData.eqv d e else PyData.eqv d e))) else none
theorem b_eq : BinR K (rEqD K) (hEq false) := by
  intro H x y d1 d2 r Q t1 t2 e q
  obtain ⟨⟨h1, h2⟩, rfl⟩ := ite_some e
  exact ⟨d1, d2, t1.dp, t2.dp, h1, h2, q _ _ (nr_val (.bl _))⟩
theorem b_ne : BinR K (rNeD K) (hEq true) := by
  intro H x y d1 d2 r Q t1 t2 e q
  obtain ⟨⟨h1, h2⟩, rfl⟩ := ite_some e
  exact ⟨d1, d2, t1.dp, t2.dp, h1, h2, q _ _ (nr_val (.bl _))⟩
def flatD : PD → Bool
  | .none => true
  | .bool _ => true
  | .int _ => true
  | .str _ => true
  | _ => false
def eqD : PD → PD → Bool
  | .none, .none => true
  | .bool a, .bool b => a == b
  | .bool a, .int b => (if a then 1 else 0) == b
  | .int a, .bool b => a == (if b then 1 else 0)
  | .int a, .int b => a == b
  | .str a, .str b => a == b
  | _, _ => false
theorem flat_of {H : Hp} {v : V} {d : PD} (h : Tr K H v d) (f : flatD d = true) : flatV v = true := by cases h <;> first | rfl | cases f
theorem flat_all {H : Hp} : ∀ {vs : List V} {ds : List PD}, TrA K H vs ds → ds.all flatD = true → vs.all flatV = true
  | _, _, .nil, _ => rfl
  | _, _, .cons h t, f => by
    rw [List.all_cons, Bool.and_eq_true] at f ⊢
    exact ⟨flat_of h f.1, flat_all t f.2⟩
theorem eq_flat {H : Hp} {v w : V} {d e : PD} (h : Tr K H v d) (h' : Tr K H w e) (f : flatD d = true) (f' : flatD e = true) : eqV v w = eqD d e := by
  cases h <;> first | (cases h' <;> first | rfl | cases f') | cases f
theorem in_flat {H : Hp} {x : V} {d : PD} (h : Tr K H x d) (f : flatD d = true) : ∀ {vs : List V} {ds : List PD}, TrA K H vs ds → ds.all flatD = true → (vs.any fun y => eqV y x) = ds.any fun y => eqD y d
  | _, _, .nil, _ => rfl
  | _, _, .cons h' t, f' => by
    rw [List.all_cons, Bool.and_eq_true] at f'
    rw [List.any_cons, List.any_cons, eq_flat h' h f'.1 f, in_flat h f t f'.2]
def hIn (neg : Bool) (x : PD) : PD → Option Rs
  | .list l => if flatD x = true ∧ l.all flatD = true then some (.val (.bool (if neg then !(l.any fun y => eqD y x) else l.any fun y => eqD y x))) else none
  | .tuple l => if flatD x = true ∧ l.all flatD = true then some (.val (.bool (if neg then !(l.any fun y => eqD y x) else l.any fun y => eqD y x))) else none
  | _ => none
theorem Tw.flat {H : Hp} {v : V} {d : PD} (h : Tw K H v d) (f : flatD d = true) : Tr K H v d := by
  cases h with
  | tr h => exact h
  | own h t => cases f
theorem b_in (neg : Bool) : BinR K (rIn K neg) (hIn neg) := by
  intro H x y d1 d2 r Q t1 t2 e q
  cases d2 <;> simp only [hIn] at e <;> first | cases e; done | skip
  case list l =>
    obtain ⟨⟨f1, f2⟩, rfl⟩ := ite_some e
    obtain ⟨a, xs, rfl, h, t⟩ := t2.seq
    refine ⟨a, xs, rfl, .inl h, flat_of (t1.flat f1) f1, flat_all t f2, ?_⟩
    unfold inV
    rw [in_flat (t1.flat f1) f1 t f2]
    exact q _ _ (nr_val (.bl _))
  case tuple l =>
    obtain ⟨⟨f1, f2⟩, rfl⟩ := ite_some e
    obtain ⟨a, xs, rfl, h, t⟩ := t2.tseq
    refine ⟨a, xs, rfl, .inr h.sqt, flat_of (t1.flat f1) f1, flat_all t f2, ?_⟩
    unfold inV
    rw [in_flat (t1.flat f1) f1 t f2]
    exact q _ _ (nr_val (.bl _))
def rIx (K : PySem.W.Frag) : R2 := fun x y H Q => rIxL K x y H Q ∨ rIxT K x y H Q
theorem o_ix : IxR X (rIx X.K) := IxR.or ix_list ix_tup
def hIx : PD → PD → Option Rs
  | .list l, .int i => (atI l i).map .val
  | .tuple l, .int i => (atI l i).map .val
  | _, _ => none
theorem at_tr {H : Hp} {vs : List V} {ds : List PD} {i : Int} {d : PD} (t : TrA K H vs ds) (h : atI ds i = some d) : ∃ v, atI vs i = some v ∧ Tr K H v d := by
  unfold atI at h ⊢
  rw [t.len]
  obtain ⟨j, e1, e2⟩ := obind h
  obtain ⟨v, h1, h2⟩ := t.get e2
  exact ⟨v, by rw [e1]; exact h1, h2⟩
theorem b_ix : BinR K (rIx K) hIx := by
  intro H x y d1 d2 r Q t1 t2 e q
  cases d1 <;> cases d2 <;> simp only [hIx] at e <;> first | cases e; done | skip
  case list.int l i =>
    obtain ⟨d, e1, e2⟩ := omap e
    cases e2
    obtain ⟨a, xs, rfl, h, t⟩ := t1.seq
    obtain ⟨v, hv, tv⟩ := at_tr t e1
    exact .inl ⟨a, xs, i, v, rfl, t2.int, h, hv, q _ _ (nr_val tv)⟩
  case tuple.int l i =>
    obtain ⟨d, e1, e2⟩ := omap e
    cases e2
    obtain ⟨a, xs, rfl, h, t⟩ := t1.tseq
    obtain ⟨v, hv, tv⟩ := at_tr t e1
    exact .inr ⟨a, xs, i, v, rfl, t2.int, h.sqt, hv, q _ _ (nr_val tv)⟩
end
end Dv
set_option Elab.async false
set_option linter.all false
set_option maxRecDepth 100000
set_option maxHeartbeats 4000000
namespace Dv
open PySem PySem.Spec PyProof.Rows L2 Gq
def tyN : PD → Option String
  | .none => some "NoneType"
  | .bool _ => some "bool"
  | .int _ => some "int"
  | .str _ => some "str"
  | .list _ => some "list"
  | .tuple _ => some "tuple"
  | .dict _ => none
theorem Tw.ty {K : PySem.W.Frag} {H : Hp} {v : V} {d : PD} {n : String} (h : Tw K H v d) (e : tyN d = some n) : TyX K H v (.type n) := by
  cases h with
  | tr h =>
    cases h with
    | non => cases e; exact .base .non
    | bl b => cases e; exact .base (.bl b)
    | int i => cases e; exact .base (.int i)
    | str x => cases e; exact .base (.str x)
    | lst h t =>
      cases e
      rcases h with ⟨o, h⟩ | ⟨o, its, k, h1, h2, _⟩
      · exact .base (.frz h)
      · exact .kList h1 h2
    | tup h t =>
      cases e
      rcases h with ⟨o, h, _⟩ | ⟨o, its, k, h1, h2, _⟩
      · exact .fTuple h
      · exact .kTuple h1 h2
  | own h t => cases e; exact .base (.lst h)
def isiD (T : String) (d : PD) : Option Bool := (tyN d).bind fun n => kitB n T
def isiA : List String → PD → Option Bool
  | [], _ => some false
  | T :: Ts, d => (isiD T d).bind fun b => if b = true then some true else isiA Ts d
def fIsi (T : String) (f : Ev) : Ev := fun ρ => (f ρ).bind fun p => (pk p.1 p.2).bind fun d => (isiD T d).map fun b => (.val (.bool b), p.2)
def fIsiA (Ts : List String) (f : Ev) : Ev := fun ρ => (f ρ).bind fun p => (pk p.1 p.2).bind fun d => if (tyN d).isSome = true then (isiA Ts d).map fun b => (.val (.bool b), p.2) else none
section
variable {X : Cx} {T : List Addr} {e a b c : Expr} {es : List Expr} {f f1 f2 f3 : Ev} {g g1 g2 : Et} {fs : Ea} {pos p p2 q : Pos}
theorem s_isi {x : Str} {tn : String} (hg : Gl X "isinstance") (hm : X.mg "isinstance" = none) (hg2 : Gl X x) (hm2 : X.mg x = none) (hv : bootBuiltins x = some (.type tn)) (h : SE X T e f)
    (hn : x ≠ "__name__" := by decide) (hd : (x == ("__debug__" : Str)) = false := by decide)
    (he : starEach [e, .Name x p2] X.env = (false, eval e X.env) :: starEach [.Name x p2] X.env := by rfl) (he2 : starEach [.Name x p2] X.env = (false, eval (.Name x p2) X.env) :: starEach [] X.env := by rfl)
    (hpl : (backTo pos (starEach [.Name x p2] X.env)).any (·.1) = false := by rfl) : SE X T (.Call (.Name "isinstance" p) [e, .Name x p2] [] pos) (fIsi tn f) := by
  refine PE.imp (pe_callB call_isi hg hm PyProof.Rows.boot_isinstance (pa_cons h (pa_cons (pe_bltn (v := .ty tn) hg2 hm2 hv rfl hn hd) pa_nil he2) he) (by decide) (by decide) he hpl) fun σ H Q ⟨ρ, r, ρ', R, e, q⟩ => ?_
  obtain ⟨⟨r1, ρ1⟩, e1, e2⟩ := obind e
  obtain ⟨d, e3, e4⟩ := obind e2
  obtain ⟨b, e5, e6⟩ := omap e4
  cases e6
  obtain ⟨n, e7, e8⟩ := obind e5
  refine ⟨ρ, r1, _, R, e1, fun v H1 P => ?_⟩
  exact ⟨v, .ty tn, .type n, .type tn, b, rfl, .ty tn, (P.tw e3).ty e7, kit_ty e8, q _ _ (P.op (nr_val (.bl b)))⟩
def fChain (h1 h2 : PD → PD → Option Rs) (f1 f2 f3 : Ev) : Ev := fun ρ => (f1 ρ).bind fun p1 => (f2 p1.2).bind fun p2 => (pk p1.1 p2.2).bind fun d1 => (pk p2.1 p2.2).bind fun d2 => (h1 d1 d2).bind fun r => match r with
  | .val (.bool k) => if k = true then (f3 p2.2).bind fun p3 => (pk p2.1 p3.2).bind fun d2' => (pk p3.1 p3.2).bind fun d3 => (h2 d2' d3).map fun r => (r, p3.2) else some (.val (.bool false), p2.2)
  | _ => none
theorem chain_core {ra rb : R2} {h1 h2 : PD → PD → Option Rs} (hb1 : BinR X.K ra h1) (hb2 : BinR X.K rb h2) {σ : Slots} {H : Hp} {Q : VK} (q : tS X.K T (fChain h1 h2 f1 f2 f3) σ H Q) : tChain ra rb (tS X.K T f1) (tS X.K T f2) (tS X.K T f3) σ H Q := by
  obtain ⟨ρ, r, ρ', R, e, q⟩ := q
  obtain ⟨⟨r1, ρ1⟩, e1, e⟩ := obind e
  obtain ⟨⟨r2, ρ2⟩, e2, e⟩ := obind e
  obtain ⟨d1, k1, e⟩ := obind e
  obtain ⟨d2, k2, e⟩ := obind e
  obtain ⟨rr, hr, e⟩ := obind e
  refine ⟨ρ, r1, ρ1, R, e1, fun x H1 P1 => ⟨ρ1, r2, ρ2, P1.rep, e2, fun y H2 P2 => ?_⟩⟩
  have P12 := P1.held P2
  refine hb1 H2 x y d1 d2 rr _ (P12.tw k1) (P2.tw k2) hr fun z H3 N => ?_
  cases rr with
  | val d =>
    cases d with
    | bool k =>
      have tz : Tr X.K H3 z (.bool k) := N.2
      cases tz
      refine ⟨k, rfl, ?_⟩
      have B := (post_refl (v := .non) P2.rep (show ResOk X.K ρ2 σ H2 H2 (.val .none) .non from .non)).op N
      have P2' := P2.held B
      have P12' := P1.held P2'
      cases k with
      | true =>
        simp only [if_true] at e ⊢
        obtain ⟨⟨r3, ρ3⟩, e3, e⟩ := obind e
        obtain ⟨d2', k3, e⟩ := obind e
        obtain ⟨d3, k4, e⟩ := obind e
        obtain ⟨r', hr', e⟩ := omap e
        cases e
        refine ⟨ρ2, r3, ρ3, P2'.rep, e3, fun w H4 P3 => ?_⟩
        have P23 := P2'.held P3
        exact hb2 H4 y w d2' d3 r _ (P23.tw k3) (P3.tw k4) hr' fun v H5 N' => q v H5 ((P12'.held P3).op N')
      | false =>
        simp only [Bool.false_eq_true, if_false, Option.some.injEq, Prod.mk.injEq] at e ⊢
        obtain ⟨rfl, rfl⟩ := e
        exact q _ _ (P12'.toT.toE (.bl false))
    | _ => simp at e
  | _ => simp at e
theorem s_chain {op op' : CmpOp} {ra rb : R2} {h1 h2 : PD → PD → Option Rs} (ho : OpR X (compareOp op) ra) (hb1 : BinR X.K ra h1) (ho' : OpR X (compareOp op') rb) (hb2 : BinR X.K rb h2) (ha : SE X T a f1) (hb : SE X T b f2) (hc : SE X T c f3)
    (hm : lastMarks [op, op'] [b, c] = false := by with_unfolding_all rfl) : SE X T (.Compare a [op, op'] [b, c] pos) (fChain h1 h2 f1 f2 f3) :=
  PE.imp (pe_chain ho ho' ha hb hc hm) fun σ H Q q => chain_core hb1 hb2 q
theorem st_chain {op op' : CmpOp} {ra rb : R2} {h1 h2 : PD → PD → Option Rs} (ho : OpR X (compareOp op) ra) (hb1 : BinR X.K ra h1) (ho' : OpR X (compareOp op') rb) (hb2 : BinR X.K rb h2) (ha : SE X T a f1) (hb : SE X T b f2) (hc : SE X T c f3)
    (hm : lastMarks [op, op'] [b, c] = false := by with_unfolding_all rfl) : ST X T (.Compare a [op, op'] [b, c] pos) (fTst (fChain h1 h2 f1 f2 f3)) :=
  PT.imp (pt_chain ho ho' ha hb hc hm) fun σ H Q q => chain_core hb1 hb2 (tst_of q)
end
end Dv
set_option Elab.async false
set_option linter.all false
set_option maxRecDepth 100000
set_option maxHeartbeats 4000000
namespace Dv
open PySem PySem.Spec PyProof.Rows L2 Gq
abbrev Ep := Rho → Option (Option Int × Rho)
def tP (K : PySem.W.Frag) (T : List Addr) (f : Ep) : TO := fun σ H Q => ∃ ρ o ρ', RepS K T ρ σ H ∧ f ρ = some (o, ρ') ∧ ∀ H', PostT K T ρ σ H ρ' H' → Q o H'
def SP (X : Cx) (T : List Addr) (e : Option Expr) (f : Ep) : Prop := PO X e (tP X.K T f)
theorem PO.imp {X : Cx} {e : Option Expr} {t t' : TO} (h : PO X e t') (w : ∀ σ H Q, t σ H Q → t' σ H Q) : PO X e t := ⟨fun pins s σ H Q I q => h.run pins s σ H Q I (w σ H Q q)⟩
def pNo : Ep := fun ρ => some (none, ρ)
def pSome (f : Ev) : Ep := fun ρ => (f ρ).bind fun p => match p.1 with
  | .val (.int i) => some (some i, p.2)
  | _ => none
def cutX {α : Type} (xs : List α) (lo hi : Option Int) : List α := (xs.drop (HT.sIx xs.length 0 lo)).take (HT.sIx xs.length xs.length hi - HT.sIx xs.length 0 lo)
def hSl (d : PD) (lo hi : Option Int) : Option Rs := match d with
  | .list l => some (.new (cutX l lo hi))
  | .tuple l => some (.val (.tuple (cutX l lo hi)))
  | _ => none
def fSl (f : Ev) (lo hi : Ep) : Ev := fun ρ => (f ρ).bind fun p => (lo p.2).bind fun q => (hi q.2).bind fun u => (pk p.1 u.2).bind fun d => (hSl d q.1 u.1).map fun r => (r, u.2)
theorem cut_tr {K : PySem.W.Frag} {H : Hp} {vs : List V} {ds : List PD} (t : TrA K H vs ds) (lo hi : Option Int) : TrA K H (cutV vs lo hi) (cutX ds lo hi) := by
  unfold cutV cutX
  rw [t.len]
  exact (t.drop _).take _
theorem TrA.inj {K : PySem.W.Frag} {H : Hp} : ∀ {vs : List V} {ds es : List PD}, TrA K H vs ds → vs.length = es.length → ds.length = es.length
  | _, _, _, t, e => by rw [← t.len]; exact e
section
variable {X : Cx} {T : List Addr} {e a b c : Expr} {es : List Expr} {f f1 f2 f3 : Ev} {g g1 g2 : Et} {fs : Ea} {pos p p2 q : Pos} {lo hi : Option Expr} {fl fh : Ep}
theorem sp_no : SP X T none pNo := by
  refine PO.imp po_none fun σ H Q ⟨ρ, o, ρ', R, e, q⟩ => ?_
  cases e
  exact q H (PostT.refl R)
theorem sp_some (h : SE X T e f) : SP X T (some e) (pSome f) := by
  refine PO.imp (po_some h) fun σ H Q ⟨ρ, o, ρ', R, e, q⟩ => ?_
  obtain ⟨⟨r, ρ1⟩, e1, e2⟩ := obind e
  refine ⟨ρ, r, ρ1, R, e1, fun v H1 P => ?_⟩
  cases r with
  | val d =>
    cases d with
    | int i =>
      simp only [Option.some.injEq, Prod.mk.injEq] at e2
      obtain ⟨rfl, rfl⟩ := e2
      have res : Tr X.K H1 v (.int i) := P.res
      cases res
      exact ⟨i, rfl, q H1 P.toT⟩
    | _ => simp at e2
  | _ => simp at e2
theorem cutX_whole {α : Type} {xs : List α} {lo hi : Option Int} (h : (cutX xs lo hi).length = xs.length) : cutX xs lo hi = xs := by
  have h2 : (cutX xs lo hi).length = min (HT.sIx xs.length xs.length hi - HT.sIx xs.length 0 lo) (xs.length - HT.sIx xs.length 0 lo) := by unfold cutX; rw [List.length_take, List.length_drop]
  by_cases h0 : HT.sIx xs.length 0 lo = 0
  · unfold cutX
    rw [h0] at h2 ⊢
    rw [List.drop_zero]
    exact List.take_of_length_le (by omega)
  · have e : xs.length = 0 := by omega
    have : xs = [] := List.length_eq_zero_iff.mp e
    subst this
    unfold cutX
    simp
theorem s_sl (h : SE X T e f) (hl : SP X T lo fl) (hh : SP X T hi fh) : SE X T (.Subscript e (.Slice lo hi none p2) pos) (fSl f fl fh) := by
  refine PE.imp (pe_slice (SlR.or sl_list sl_tupF) h hl hh) fun σ H Q ⟨ρ, r, ρ', R, e, q⟩ => ?_
  obtain ⟨⟨r1, ρ1⟩, e1, e⟩ := obind e
  obtain ⟨⟨o1, ρ2⟩, e2, e⟩ := obind e
  obtain ⟨⟨o2, ρ3⟩, e3, e⟩ := obind e
  obtain ⟨d, k, e⟩ := obind e
  obtain ⟨rr, hr, e⟩ := omap e
  cases e
  refine ⟨ρ, r1, ρ1, R, e1, fun v H1 P => ⟨ρ1, o1, ρ2, P.rep, e2, fun H2 P2 => ⟨ρ2, o2, _, P2.rep, e3, fun H3 P3 => ?_⟩⟩⟩
  have B := P.held ((P2.trans P3).toE (show ResOk X.K _ σ H1 H3 (.val .none) .non from .non))
  cases d <;> simp only [hSl] at hr <;> first | cases hr; done | skip
  case list l =>
    cases hr
    obtain ⟨a, xs, rfl, hx, t⟩ := (B.tw k).seq
    exact .inl ⟨a, xs, rfl, hx, fun p hp => q _ _ (B.op (nr_new hp (cut_tr t o1 o2)))⟩
  case tuple l =>
    cases hr
    obtain ⟨a, xs, rfl, hx, t⟩ := (B.tw k).tseq
    refine .inr ⟨a, xs, rfl, hx.sqt, fun z => ?_, fun p o hp ho => q _ _ (B.op (nr_tup hp ho (cut_tr t o1 o2)))⟩
    have z2 : (cutX l o1 o2).length = l.length := by rw [← (cut_tr t o1 o2).len, z, t.len]
    rw [cutX_whole z2] at q
    exact q _ _ (B.op (nr_val (.tup hx t)))
def cApp (i : Nat) (f : Ev) : Es := fun ρ => match ρ[i]? with
  | some (.own _ _) => (fVal f ρ).bind fun q => match q.1, q.2[i]? with
    | .val d, some (.own bo l) => if l.length < sizeLine then some (.nx (q.2.set i (.own bo (l ++ [d])))) else none
    | _, _ => none
  | _ => none
theorem app_inv {i : Nat} {r1 : Rs} {ρ1 : Rho} {w : Fw} (e : (match r1, ρ1[i]? with
    | .val d, some (.own bo l) => if l.length < sizeLine then some (.nx (ρ1.set i (.own bo (l ++ [d])))) else none
    | _, _ => none) = some w) : ∃ d bo l, r1 = .val d ∧ ρ1[i]? = some (.own bo l) ∧ l.length < sizeLine ∧ w = .nx (ρ1.set i (.own bo (l ++ [d]))) := by
  split at e
  · split at e
    · cases e
      exact ⟨_, _, _, rfl, by assumption, by assumption, rfl⟩
    · cases e
  · cases e
theorem own_inv {i : Nat} {r1 : Rs} {ρ1 : Rho} {w : Fw} {F : PD → Option Fw} (e : (match r1, ρ1[i]? with
    | .val d, some (.own _ _) => F d
    | _, _ => none) = some w) : ∃ d bo l, r1 = .val d ∧ ρ1[i]? = some (.own bo l) ∧ F d = some w := by
  split at e
  · exact ⟨_, _, _, rfl, by assumption, e⟩
  · cases e
theorem set_inv {i : Nat} {d : PD} {r1 : Rs} {ρ1 : Rho} {w : Fw} (e : (match r1, ρ1[i]? with
    | .val (.int k), some (.own bo l) => (ixN l.length k).map fun j => .nx (ρ1.set i (.own bo (l.set j d)))
    | _, _ => none) = some w) : ∃ k bo l j, r1 = .val (.int k) ∧ ρ1[i]? = some (.own bo l) ∧ ixN l.length k = some j ∧ w = .nx (ρ1.set i (.own bo (l.set j d))) := by
  split at e
  · obtain ⟨j, e1, e2⟩ := omap e
    exact ⟨_, _, _, j, rfl, by assumption, e1, e2.symm⟩
  · cases e
theorem ss_app (i : Nat) {x : Str} {apos cpos : Pos} (h : SE X T e f) (hN : X.N[i]? = some x := by rfl) (hv : Vis X.env.scope x := by first | exact Or.inl rfl | exact Or.inr (Or.inl rfl) | exact Or.inr (Or.inr rfl)) (hd : (x == ("__debug__" : Str)) = false := by decide)
    (hcd : (x == ("__classdict__" : Str)) = false := by decide) (hbase : attributeBase (.Name x p) "append" X.env (eval (.Name x p) X.env) = eval (.Name x p) X.env := by rfl)
    (hfew : ((backTo cpos (starEach [e] X.env)).all (fun x => !x.1) && (backToKw cpos (keywordEach [] X.env)).all (fun x => x.1.isSome)
      && decide ([e].length + ([] : List Keyword).length + (if ([] : List Keyword).isEmpty then 0 else 1) < 30)) = true := by rfl)
    (hline : (apos.endLine == cpos.line) = true := by rfl) (he : starEach [e] X.env = (false, eval e X.env) :: starEach [] X.env := by rfl) (hplain : (backTo cpos (starEach [] X.env)).any (·.1) = false := by rfl)
    (hs : swapsWith (.Call (.Attribute (.Name x p) "append" apos) [e] [] cpos) none pos.line X.env = pure false := by rfl) : SS X T (.Expr (.Call (.Attribute (.Name x p) "append" apos) [e] [] cpos) pos) (cApp i f) := by
  refine PS.imp (ps_expr (pe_bm PySem.F.plainAttrs_list PySem.F.slot_list_append PySem.F.type_list_append mt_append (pe_var hN hv hd hcd) (pa_cons (s_val h) pa_nil he) hbase hfew hline he hplain) hs) fun D σ H ⟨ρ, w, R, e, q⟩ => ?_
  unfold cApp at e
  split at e
  rotate_left
  · cases e
  rename_i bo0 l0 hi0
  obtain ⟨a, xs0, ha, hx0, _⟩ := R.own i bo0 l0 hi0
  obtain ⟨⟨r1, ρ1⟩, e1, e2⟩ := obind e
  obtain ⟨d, bo, l, hq1, hq2, hl, rfl⟩ := app_inv e2
  · refine ⟨.ref a, ha, .inl ⟨rfl, xs0, SqL.of hx0⟩, ρ, r1, ρ1, R, e1, fun v H1 P => ?_⟩
    obtain ⟨a', xs, h1, h2, h3⟩ := P.rep.own i bo l hq2
    rw [ha] at h1
    cases h1
    subst hq1
    have tv : Tr X.K H1 v d := P.res
    refine ⟨a, xs, v, rfl, rfl, h2, by rw [h3.len]; exact hl, ?_⟩
    exact q σ _ (P.toT.toS.write hq2 ha h2 (h3.append (.cons tv .nil)))
def cSetIx (i : Nat) (f fi : Ev) : Es := fun ρ => (fVal f ρ).bind fun p => match p.1, p.2[i]? with
  | .val d, some (.own _ _) => (fi p.2).bind fun q => match q.1, q.2[i]? with
    | .val (.int k), some (.own bo l) => (ixN l.length k).map fun j => .nx (q.2.set i (.own bo (l.set j d)))
    | _, _ => none
  | _, _ => none
theorem ss_setIx (i : Nat) {x : Str} {fi : Ev} (h : SE X T e f) (hi : SE X T a fi) (hN : X.N[i]? = some x := by rfl) (hv : Vis X.env.scope x := by first | exact Or.inl rfl | exact Or.inr (Or.inl rfl) | exact Or.inr (Or.inr rfl)) (hd : (x == ("__debug__" : Str)) = false := by decide)
    (hcd : (x == ("__classdict__" : Str)) = false := by decide)
    (hs : swapsWithSole [.Subscript (.Name x p) a p2] e pos.line X.env = pure false := by rfl) (hw : swappedStores [.Subscript (.Name x p) a p2] e X.env = pure none := by rfl)
    (h1 : (assignEach [.Subscript (.Name x p) a p2] X.env).map (·.2) = [assign (.Subscript (.Name x p) a p2) X.env] := by rfl)
    (ha : ∀ v, assign (.Subscript (.Name x p) a p2) X.env v = (do
      let ov ← holding [v] (eval (.Name x p) X.env)
      let iv ← holding [v, ov] (eval a X.env)
      standAt p2
      holding [v, ov, iv] (setItem ov iv v)
      release [v, ov, iv] []) := by intro _; rfl) : SS X T (.Assign [.Subscript (.Name x p) a p2] e pos) (cSetIx i f fi) := by
  refine PS.imp (ps_asg (s_val h) (pg_sub (pe_var hN hv hd hcd) hi set_list ha) hs hw h1) fun D σ H ⟨ρ, w, R, e, q⟩ => ?_
  obtain ⟨⟨r1, ρ1⟩, e1, e2⟩ := obind e
  refine ⟨ρ, r1, ρ1, R, e1, fun v H1 P => ?_⟩
  obtain ⟨d, bo0, l0, hq1, hq2, e2⟩ := own_inv e2
  subst hq1
  have tv : Tr X.K H1 v d := P.res
  obtain ⟨a', xs0, ha0, hx0, _⟩ := P.rep.own i bo0 l0 hq2
  obtain ⟨⟨r2, ρ2⟩, e3, e4⟩ := obind e2
  refine ⟨.ref a', ha0, ρ1, r2, ρ2, P.rep, e3, fun y H2 P2 => ?_⟩
  obtain ⟨k, bo, l, j, hq3, hq4, hj, rfl⟩ := set_inv e4
  subst hq3
  have ty : Tr X.K H2 y (.int k) := P2.res
  cases ty
  obtain ⟨a2, xs, h1, h2, h3⟩ := P2.rep.own i bo l hq4
  rw [ha0] at h1
  cases h1
  have tv2 := tv.keep (P2.keep P.rep)
  refine ⟨a', xs, k, j, rfl, rfl, h2, by rw [h3.len]; exact hj, ?_⟩
  exact q σ _ ((P.toT.trans P2.toT).toS.write hq4 ha0 h2 (h3.set tv2 j))
def aStar (f : Ev) (fs : Ea) : Ea := fun ρ => (fVal f ρ).bind fun p => match p.1 with
  | .val (.tuple l) => (fs p.2).map fun q => (l ++ q.1, q.2)
  | .val (.list l) => (fs p.2).map fun q => (l ++ q.1, q.2)
  | _ => none
theorem sa_star (h : SE X T e f) (hs : SA X T es fs) (hst : starEach (.Starred e p :: es) X.env = (true, eval e X.env) :: starEach es X.env := by rfl) : SA X T (.Starred e p :: es) (aStar f fs) := by
  refine PA.imp (StX.pa_star (s_val h) hs hst) fun σ H Q ⟨ρ, ds, ρ', R, e, q⟩ => ?_
  obtain ⟨⟨r1, ρ1⟩, e1, e2⟩ := obind e
  refine ⟨ρ, r1, ρ1, R, e1, fun v H1 P => ?_⟩
  cases r1 with
  | slot i => simp at e2
  | new l => simp at e2
  | val d =>
  cases d <;> first | (simp at e2; done) | skip
  case tuple l =>
    obtain ⟨⟨ds2, ρ2⟩, e3, e4⟩ := omap e2
    cases e4
    have res : Tr X.K H1 v (.tuple l) := P.res
    cases res with
    | tup hx t => exact ⟨_, _, rfl, .inl hx.sqt, ρ1, ds2, _, P.rep, e3, fun vs H2 P2 t2 => q _ H2 (P.toT.trans P2) ((t.keep (P2.keep P.rep)).append t2)⟩
  case list l =>
    obtain ⟨⟨ds2, ρ2⟩, e3, e4⟩ := omap e2
    cases e4
    have res : Tr X.K H1 v (.list l) := P.res
    cases res with
    | lst hx t => exact ⟨_, _, rfl, .inr hx.sql, ρ1, ds2, _, P.rep, e3, fun vs H2 P2 t2 => q _ H2 (P.toT.trans P2) ((t.keep (P2.keep P.rep)).append t2)⟩
end
end Dv
set_option Elab.async false
set_option linter.all false
set_option maxRecDepth 100000
set_option maxHeartbeats 4000000
namespace Dv
open PySem PySem.Spec PyProof.Rows L2 Gq
def intsOf : List PD → Option (List Int)
  | [] => some []
  | .int i :: ds => (intsOf ds).map fun ns => i :: ns
  | _ :: _ => none
theorem intsOf_map : ∀ {ds : List PD} {ns : List Int}, intsOf ds = some ns → ds = ns.map .int
  | [], _, e => by cases e; rfl
  | d :: ds, ns, e => by
    cases d <;> first | (cases e; done) | skip
    case int i =>
      obtain ⟨ms, e1, e2⟩ := omap e
      cases e2
      rw [intsOf_map e1]; rfl
theorem intsOf_ints : ∀ ns : List Int, intsOf (ns.map .int) = some ns
  | [] => rfl
  | n :: ns => by show (intsOf (ns.map .int)).map _ = _; rw [intsOf_ints ns]; rfl
theorem TrA.ints {K : PySem.W.Frag} {H : Hp} : ∀ {vs : List V} {ds : List PD} {ns : List Int}, TrA K H vs ds → intsOf ds = some ns → vs = ns.map V.int
  | _, _, _, .nil, e => by cases e; rfl
  | _, _, ns, @TrA.cons _ _ v vs d ds h t, e => by
    cases h <;> first | (cases e; done) | skip
    case int i =>
      obtain ⟨ms, e1, e2⟩ := omap e
      cases e2
      rw [t.ints e1]; rfl
theorem tr_ints {K : PySem.W.Frag} {H : Hp} : ∀ ns : List Int, TrA K H (ns.map V.int) (ns.map .int)
  | [] => .nil
  | n :: ns => .cons (.int n) (tr_ints ns)
def insI (x : Int) : List Int → List Int
  | [] => [x]
  | y :: ys => if x ≤ y then x :: y :: ys else y :: insI x ys
def isort : List Int → List Int
  | [] => []
  | x :: xs => insI x (isort xs)
theorem insI_perm (x : Int) : ∀ ys, (insI x ys).Perm (x :: ys)
  | [] => .refl _
  | y :: ys => by
    unfold insI
    split
    · exact .refl _
    · exact ((insI_perm x ys).cons y).trans (List.Perm.swap x y ys)
theorem isort_perm : ∀ xs, (isort xs).Perm xs
  | [] => .refl _
  | x :: xs => (insI_perm x (isort xs)).trans ((isort_perm xs).cons x)
theorem insI_sorted (x : Int) : ∀ {ys : List Int}, ys.Pairwise (· ≤ ·) → (insI x ys).Pairwise (· ≤ ·)
  | [], _ => by simp [insI]
  | y :: ys, h => by
    unfold insI
    rw [List.pairwise_cons] at h
    split
    · rename_i hx
      refine List.pairwise_cons.mpr ⟨fun z hz => ?_, List.pairwise_cons.mpr h⟩
      rcases List.mem_cons.mp hz with rfl | hz
      · exact hx
      · exact Int.le_trans hx (h.1 z hz)
    · rename_i hx
      refine List.pairwise_cons.mpr ⟨fun z hz => ?_, insI_sorted x h.2⟩
      rcases List.mem_cons.mp ((insI_perm x ys).mem_iff.mp hz) with rfl | hz
      · omega
      · exact h.1 z hz
theorem isort_sorted : ∀ xs, (isort xs).Pairwise (· ≤ ·)
  | [] => .nil
  | x :: xs => insI_sorted x (isort_sorted xs)
theorem sort_unique {xs ys : List Int} (h : ys.Perm xs) (s : ys.Pairwise (· ≤ ·)) : ys = isort xs :=
  List.Perm.eq_of_pairwise (fun a b _ _ h1 h2 => Int.le_antisymm h1 h2) s (isort_sorted xs) (h.trans (isort_perm xs).symm)
section
variable {X : Cx} {K : PySem.W.Frag}
def rSortT (K : PySem.W.Frag) : List V → Hp → VK → Prop := fun vs H Q => ∃ (a : Addr) (ns : List Int), vs = [V.ref a] ∧ SqT K H a (ns.map V.int) ∧
  ∀ (ns' : List Int) (p : Addr), ns'.Perm ns → ns'.Pairwise (· ≤ ·) → H p = none → Q (.ref p) (upd H p (.lst (ns'.map V.int)))
theorem call_sortT : CallR X (.builtin "sorted") (rSortT X.K) := by
  intro pins s σ H vs us Q I r h
  obtain ⟨a, ns, rfl, hs, q⟩ := h
  obtain ⟨its, rv, ⟨ob, hob, hcl, n, hdt⟩, bz⟩ := I.tuple hs
  rw [Vals.ref1 r]
  have ii := rv.ints
  have lz : its.length ≤ sizeLine := by rw [← rv.length]; exact bz
  apply Calls.call_function_entry kind_sorted plain_sorted entry_sorted (args_sorted1 _)
  unfold Builtin.«sorted»
  refine wpAny_bind (m := checkCount "sorted" 1 1 _) (wpAny_pure (wpAny_bind (wpAny_collect_seq a (.inr rfl) hob hcl hdt (fun h1 hk => ?_) (by simpa using lz))))
  have e1 : its.toArray.toList = its := by simp
  rw [e1]
  refine wpAny_bind (wpAny_newList ?_ lz)
  have I1 : Inv X pins σ H { s with heap := h1 } := I.kept (t' := s.toks) hk
  have at1 : (h1.push (seqObj "list" its.toArray 0)).get? h1.objs.size = some (seqObj "list" its.toArray 0) := Heap.get?_push_size _ rfl
  refine wpAny_bind (wpAny_holding (wpAny_call_entry slot_list_sort ⟨_, at1, rfl⟩ entry_list_sort
    (SrtO.list_sort_ord SrtO.swo_int at1 lz (fun z => SrtO.ints_sortable ii z) fun out k1 k2 => ⟨_, rfl, ?_⟩) (args_list_sort _)))
  obtain ⟨j1, j2, j3⟩ := SrtO.ints_out ii k1 k2
  obtain ⟨ep, hat⟩ := sortedHeap_at (vs := its) (out := out.toArray) at1
  have hl : ((out.map SrtO.iv).map V.int).length ≤ sizeLine := by
    rw [List.length_map, j2.length_eq, ← List.length_map (f := V.int)]
    exact bz
  refine wpAny_pure ⟨_, rfl, .ref h1.objs.size, upd H h1.objs.size (.lst ((out.map SrtO.iv).map V.int)), I1.laid (t' := s.toks) (fun b o e => ?_) (Nat.le_refl _) ⟨hl, out, ep, vals_of_ints j1, hat⟩, rfl, q _ _ j2 j3 (I1.hok.fresh (Nat.le_refl _))⟩
  have lt := Heap.lt_size e
  rw [sortedHeap_old (Nat.ne_of_lt lt) (by rw [size_push']; exact Nat.lt_succ_of_lt lt)]
  exact Heap.get?_push_of_some _ e
def hSort : PD → Option Rs
  | .list l => (intsOf l).map fun ns => .new ((isort ns).map .int)
  | .tuple l => (intsOf l).map fun ns => .new ((isort ns).map .int)
  | _ => none
theorem call_sort : CallR X (.builtin "sorted") (fun vs H Q => rSortedI X.K vs H Q ∨ rSortT X.K vs H Q) := CallR.or cr_sortedI call_sortT
theorem u_sort : UnR1 K (fun vs H Q => rSortedI K vs H Q ∨ rSortT K vs H Q) hSort := by
  intro H x d rs Q t e q
  cases d <;> simp only [hSort] at e <;> first | (cases e; done) | skip
  case list l =>
    obtain ⟨ns, e1, e2⟩ := omap e
    cases e2
    obtain ⟨a, xs, rfl, h, t⟩ := t.seq
    refine .inl ⟨a, ns, rfl, by rw [← t.ints e1]; exact h, fun ns' p h1 h2 hp => ?_⟩
    rw [sort_unique h1 h2]
    exact q _ _ (nr_new hp (tr_ints _))
  case tuple l =>
    obtain ⟨ns, e1, e2⟩ := omap e
    cases e2
    obtain ⟨a, xs, rfl, h, t⟩ := t.tseq
    refine .inr ⟨a, ns, rfl, by rw [← t.ints e1]; exact h.sqt, fun ns' p h1 h2 hp => ?_⟩
    rw [sort_unique h1 h2]
    exact q _ _ (nr_new hp (tr_ints _))
def ddI : List Int → List Int
  | [] => []
  | x :: xs => if x ∈ xs then ddI xs else x :: ddI xs
theorem ddI_mem : ∀ {xs : List Int} {k : Int}, k ∈ ddI xs ↔ k ∈ xs
  | [], _ => .rfl
  | x :: xs, k => by
    unfold ddI
    split
    · rename_i h
      rw [ddI_mem (xs := xs), List.mem_cons]
      exact ⟨.inr, fun z => z.elim (fun e => e ▸ h) id⟩
    · rw [List.mem_cons, List.mem_cons, ddI_mem (xs := xs)]
theorem ddI_nodup : ∀ xs : List Int, (ddI xs).Nodup
  | [] => .nil
  | x :: xs => by
    unfold ddI
    split
    · exact ddI_nodup xs
    · rename_i h
      exact List.nodup_cons.mpr ⟨fun z => h (ddI_mem.mp z), ddI_nodup xs⟩
def hLenSet : PD → Option Rs
  | .tuple l => (intsOf l).bind fun ns => if ns.length ≤ 4000 then some (.val (.int (ddI ns).length)) else none
  | _ => none
end
section
variable {X : Cx} {T : List Addr} {e a b c : Expr} {es : List Expr} {f f1 f2 f3 : Ev} {pos p p2 q apos cpos : Pos}
theorem mt_tcount {X : Cx} : MtR X "tuple.count" (fun x xs H Q => ∃ (p : Addr) (ns : List Int) (k : Int), x = .ref p ∧ xs = [.int k] ∧ SqT X.K H p (ns.map V.int) ∧ Q (.int (ns.count k : Nat)) H) := by
  intro pins s σ H x xs v us Q I rx rxs h
  obtain ⟨p, ns, k, rfl, rfl, hs, q⟩ := h
  cases rx
  obtain ⟨u, rfl, t, rfl⟩ := rxs.one
  obtain ⟨its, rv, ⟨⟨cls, dd, data, sl⟩, hob, hcl, n, hdt⟩, bz⟩ := I.tuple hs
  simp only at hcl hdt
  subst hcl hdt
  have ii := ints_of_vals rv
  refine call_meets PySem.F.slot_tuple_count ⟨_, hob, rfl⟩ PySem.F.entry_tuple_count (PySem.F.args_tuple_count_2 _ _)
    (SeqAt.tuple_countAt p its.toArray n dd sl (.int k t) (eqk k)) ⟨hob, fun y hy => (eqk_gives ii y (by simpa using hy)).at _ _, ?_⟩
  refine ⟨.int (ns.count k : Nat), H, I.tok _, ⟨s.toks, ?_⟩, q⟩
  rw [show its.toArray.toList.countP (eqk k) = ns.count k from eqk_count ii]
def tCnt (K : PySem.W.Frag) (to : TE) (t : TA) : TE := fun σ H Q => to σ H fun x H1 => ∃ p, x = .ref p ∧
  (((∃ xs, SqL K H1 p xs) ∧ t σ H1 fun vs H2 => ∃ (ns : List Int) (k : Int), vs = [.int k] ∧ SqL K H2 p (ns.map V.int) ∧ Q (.int (ns.count k : Nat)) H2) ∨
   ((∃ xs, SqTF K H1 p xs) ∧ t σ H1 fun vs H2 => ∃ (ns : List Int) (k : Int), vs = [.int k] ∧ SqT K H2 p (ns.map V.int) ∧ Q (.int (ns.count k : Nat)) H2))
theorem nodict {X : Cx} {pins : List (Addr × Obj)} {σ : L2.St} {H : Hp} {s : Shared} {p : Addr} {xs : List V} (I : Inv X pins σ H s) (h : SqTF X.K H p xs) : s.TypeIs (.ref p) "tuple" ∧ ∃ o, s.heap.get? p = some o ∧ o.dict = none := by
  obtain ⟨its, rv, ⟨ob, hob, hcl, n, hdt⟩, bz⟩ := I.tuple h.sqt
  refine ⟨⟨ob, hob, hcl⟩, ob, hob, ?_⟩
  rcases h with ⟨o, h1, h2⟩ | ⟨o, its, n, h1, h2, h3, _⟩
  · have h4 := (show ObjOk X.prog X.w H s.heap p (.frz o (.tup xs)) from I.hok p _ h1).1
    rw [hob] at h4
    cases h4
    exact h2
  · have h4 := I.kIn p o h1
    rw [hob] at h4
    cases h4
    exact h3
theorem pe_cnt {o : Expr} {to : TE} {t : TA} (ho : PE X o to) (h : PA X [e] t) (hbase : attributeBase o "count" X.env (eval o X.env) = eval o X.env := by rfl)
    (few : ((backTo cpos (starEach [e] X.env)).all (fun x => !x.1) && (backToKw cpos (keywordEach [] X.env)).all (fun x => x.1.isSome) && decide ([e].length + ([] : List Keyword).length + (if ([] : List Keyword).isEmpty then 0 else 1) < 30)) = true := by rfl)
    (hline : (apos.endLine == cpos.line) = true := by rfl) (he : starEach [e] X.env = (false, eval e X.env) :: starEach [] X.env := by rfl) (hplain : (backTo cpos (starEach [] X.env)).any (·.1) = false := by rfl) :
    PE X (.Call (.Attribute o "count" apos) [e] [] cpos) (tCnt X.K to t) := by
  refine ⟨fun pins s σ H Q I hh => ?_⟩
  refine wpAny_Call_method_late hbase few hline rfl (thn (ho.run pins s σ H _ I hh) fun v s1 ⟨x, H1, I1, r1, p, ex, q1⟩ => ?_)
  subst ex
  have rr := r1
  cases r1
  rcases q1 with ⟨⟨xs, hx⟩, q1⟩ | ⟨⟨xs, hx⟩, q1⟩
  · obtain ⟨h1, h2⟩ := tyV_is (T := "list") I1 rr (.inl ⟨rfl, xs, hx⟩)
    refine ⟨"list", "list.count", PySem.F.plainAttrs_list, PySem.F.slot_list_count, PySem.F.type_list_count, h1, h2, ?_⟩
    rw [he]
    refine Calls.callWith_builtin (by show (false || (backTo cpos (starEach [] X.env)).any (·.1)) = false; rw [hplain]; rfl) (Calls.evalArgs_plain ?_)
    have hA := h.run cpos pins s1 σ H1 _ I1 q1
    rw [he] at hA
    exact thn hA fun us s2 ⟨vs, H2, I2, r2, ns, k, ev, hs, q3⟩ => mt_lcount pins s2 σ H2 (.ref p) _ _ _ Q I2 rr r2 ⟨p, ns, k, rfl, ev, hs, q3⟩
  · obtain ⟨h1, o, h2, h3⟩ := nodict I1 hx
    refine ⟨"tuple", "tuple.count", PySem.F.plainAttrs_tuple, PySem.F.slot_tuple_count, PySem.F.type_tuple_count, h1, fun a e => ?_, ?_⟩
    · cases e
      exact ⟨o, h2, h3⟩
    rw [he]
    refine Calls.callWith_builtin (by show (false || (backTo cpos (starEach [] X.env)).any (·.1)) = false; rw [hplain]; rfl) (Calls.evalArgs_plain ?_)
    have hA := h.run cpos pins s1 σ H1 _ I1 q1
    rw [he] at hA
    exact thn hA fun us s2 ⟨vs, H2, I2, r2, ns, k, ev, hs, q3⟩ => mt_tcount pins s2 σ H2 (.ref p) _ _ _ Q I2 rr r2 ⟨p, ns, k, rfl, ev, hs, q3⟩
def hCnt (d : PD) (k : PD) : Option Rs := match d, k with
  | .list l, .int i => (intsOf l).map fun ns => .val (.int (ns.count i : Nat))
  | .tuple l, .int i => (intsOf l).map fun ns => .val (.int (ns.count i : Nat))
  | _, _ => none
def fCnt (f1 f2 : Ev) : Ev := fun ρ => (f1 ρ).bind fun p1 => (f2 p1.2).bind fun p2 => (pk p1.1 p1.2).bind fun d0 => (pk p1.1 p2.2).bind fun d1 => if tyN d0 = tyN d1 then (pk p2.1 p2.2).bind fun d2 => (hCnt d1 d2).map fun r => (r, p2.2) else none
theorem s_cnt {o : Expr} (h1 : SE X T o f1) (h2 : SE X T e f2) (hbase : attributeBase o "count" X.env (eval o X.env) = eval o X.env := by rfl)
    (few : ((backTo cpos (starEach [e] X.env)).all (fun x => !x.1) && (backToKw cpos (keywordEach [] X.env)).all (fun x => x.1.isSome) && decide ([e].length + ([] : List Keyword).length + (if ([] : List Keyword).isEmpty then 0 else 1) < 30)) = true := by rfl)
    (hline : (apos.endLine == cpos.line) = true := by rfl) (he : starEach [e] X.env = (false, eval e X.env) :: starEach [] X.env := by rfl) (hplain : (backTo cpos (starEach [] X.env)).any (·.1) = false := by rfl) :
    SE X T (.Call (.Attribute o "count" apos) [e] [] cpos) (fCnt f1 f2) := by
  refine PE.imp (pe_cnt h1 (pa_cons h2 pa_nil he) hbase few hline he hplain) fun σ H Q ⟨ρ, r, ρ', R, e, q⟩ => ?_
  obtain ⟨⟨r1, ρ1⟩, e1, e⟩ := obind e
  obtain ⟨⟨r2, ρ2⟩, e2, e⟩ := obind e
  obtain ⟨d0, k0, e⟩ := obind e
  obtain ⟨d1, k1, e⟩ := obind e
  simp only at e
  split at e
  rotate_left
  · cases e
  rename_i hty
  obtain ⟨d2, k2, e⟩ := obind e
  obtain ⟨r', hr, e⟩ := omap e
  cases e
  refine ⟨ρ, r1, ρ1, R, e1, fun x H1 P1 => ?_⟩
  have t0 := P1.tw k0
  cases d1 <;> cases d2 <;> simp only [hCnt] at hr <;> first | (cases hr; done) | skip
  case list.int l i =>
    obtain ⟨ns, hi, hr⟩ := omap hr
    cases hr
    cases d0 <;> simp only [tyN] at hty <;> first | (exact absurd hty (by decide)) | (cases hty; done) | skip
    case list l0 =>
      obtain ⟨a, xs, rfl, hx, _⟩ := t0.seq
      refine ⟨a, rfl, .inl ⟨⟨xs, hx⟩, ρ1, r2, _, P1.rep, e2, fun y H2 P2 => ?_⟩⟩
      have P12 := P1.held P2
      obtain ⟨a', xs', ea, hx', t'⟩ := (P12.tw k1).seq
      cases ea
      exact ⟨ns, i, by rw [(P2.tw k2).int], by rw [← t'.ints hi]; exact hx', q _ _ (P12.op (nr_val (.int _)))⟩
  case tuple.int l i =>
    obtain ⟨ns, hi, hr⟩ := omap hr
    cases hr
    cases d0 <;> simp only [tyN] at hty <;> first | (exact absurd hty (by decide)) | (cases hty; done) | skip
    case tuple l0 =>
      obtain ⟨a, xs, rfl, hx, _⟩ := t0.tseq
      refine ⟨a, rfl, .inr ⟨⟨xs, hx⟩, ρ1, r2, _, P1.rep, e2, fun y H2 P2 => ?_⟩⟩
      have P12 := P1.held P2
      obtain ⟨a', xs', ea, hx', t'⟩ := (P12.tw k1).tseq
      cases ea
      exact ⟨ns, i, by rw [(P2.tw k2).int], by rw [← t'.ints hi]; exact hx'.sqt, q _ _ (P12.op (nr_val (.int _)))⟩
end
end Dv
set_option Elab.async false
set_option linter.all false
set_option maxRecDepth 100000
set_option maxHeartbeats 4000000
namespace Dv
open PySem PySem.Spec PyProof.Rows L2 Gq
section
variable {K : PySem.W.Frag} {T : List Addr} {ρ ρ1 ρ2 : Rho} {σ σ1 : Slots} {H H1 H2 : Hp}
def fHalf (f : Ev) : Ev := fun ρ => (f ρ).bind fun p => match p.1 with
  | .slot i => (fzn (.slot i) p.2).map fun q => (.val q.1, q.2)
  | r => some (r, p.2)
inductive RL (K : PySem.W.Frag) (ρ : Rho) (σ : Slots) (H H1 : Hp) : List Rs → List V → Prop
  | nil : RL K ρ σ H H1 [] []
  | val {v : V} {d : PD} {rs : List Rs} {vs : List V} : Tr K H1 v d → RL K ρ σ H H1 rs vs → RL K ρ σ H H1 (.val d :: rs) (v :: vs)
  | new {a : Addr} {xs : List V} {l : List PD} {rs : List Rs} {vs : List V} : H1 a = some (.lst xs) → TrA K H1 xs l → ¬ OwA ρ σ a → H a = none → (∀ (n : Nat) (m : List PD) (b : Addr), rs[n]? = some (.new m) → vs[n]? = some (.ref b) → b ≠ a) →
      RL K ρ σ H H1 rs vs → RL K ρ σ H H1 (.new l :: rs) (.ref a :: vs)
theorem RL.len {rs : List Rs} {vs : List V} (h : RL K ρ σ H H1 rs vs) : vs.length = rs.length := by
  induction h with
  | nil => rfl
  | val _ _ ih => simp [ih]
  | new _ _ _ _ _ _ ih => simp [ih]
theorem RL.fresh {rs : List Rs} {vs : List V} (h : RL K ρ σ H H1 rs vs) : ∀ (n : Nat) (m : List PD) (b : Addr), rs[n]? = some (.new m) → vs[n]? = some (.ref b) → H b = none := by
  induction h with
  | nil => intro n m b e; simp at e
  | val _ _ ih =>
    intro n m b e1 e2
    cases n with
    | zero => simp at e1
    | succ n => exact ih n m b (by simpa using e1) (by simpa using e2)
  | new _ _ _ h0 _ _ ih =>
    intro n m b e1 e2
    cases n with
    | zero => simp at e2; rw [← e2]; exact h0
    | succ n => exact ih n m b (by simpa using e1) (by simpa using e2)
theorem RL.dom {H0 : Hp} {rs : List Rs} {vs : List V} (d : ∀ b, H b = none → H0 b = none) (h : RL K ρ σ H H1 rs vs) : RL K ρ σ H0 H1 rs vs := by
  induction h with
  | nil => exact .nil
  | val h1 _ ih => exact .val h1 ih
  | new h1 h2 h3 h4 h5 _ ih => exact .new h1 h2 h3 (d _ h4) h5 ih
theorem RL.own {rs : List Rs} {vs : List V} {ρ' : Rho} {σ' : Slots} (d : ∀ (n : Nat) (m : List PD) (b : Addr), rs[n]? = some (.new m) → vs[n]? = some (.ref b) → OwA ρ' σ' b → OwA ρ σ b) (h : RL K ρ σ H H1 rs vs) : RL K ρ' σ' H H1 rs vs := by
  induction h with
  | nil => exact .nil
  | val h1 _ ih => exact .val h1 (ih fun n m b e1 e2 => d (n + 1) m b (by simpa using e1) (by simpa using e2))
  | new h1 h2 h3 h4 h5 _ ih => exact .new h1 h2 (fun z => h3 (d 0 _ _ rfl rfl z)) h4 h5 (ih fun n m b e1 e2 => d (n + 1) m b (by simpa using e1) (by simpa using e2))
def putsR : List Nat → List Rs → Rho → Option Rho
  | [], [], ρ => some ρ
  | i :: is, r :: rs, ρ => if wr ρ i = true then match r with
      | .val d => putsR is rs (ρ.set i (.val d))
      | .new l => putsR is rs (ρ.set i (.own false l))
      | .slot _ => none
    else none
  | _, _, _ => none
def putsV : List Nat → List V → Slots → Slots
  | i :: is, v :: vs, σ => putsV is vs (σ.set i (some v))
  | _, _, σ => σ
theorem own_new {i : Nat} {a b : Addr} {l : List PD} (h : OwA (ρ.set i (.own false l)) (σ.set i (some (.ref a))) b) : b = a ∨ OwA ρ σ b := by
  obtain ⟨j, bo, m, e1, e2⟩ := h
  rcases set_get e1 with ⟨rfl, e⟩ | ⟨ne, e1⟩
  · rcases set_get e2 with ⟨_, e'⟩ | ⟨ne, _⟩
    · cases e'; exact .inl rfl
    · exact absurd rfl ne
  · rw [List.getElem?_set_ne ne] at e2
    exact .inr ⟨j, bo, m, e1, e2⟩
theorem puts_ok : ∀ {is : List Nat} {rs : List Rs} {vs : List V} {ρ1 ρ2 : Rho} {σ1 : Slots}, PostS K T ρ σ H ρ1 σ1 H1 → RL K ρ1 σ1 H H1 rs vs → putsR is rs ρ1 = some ρ2 → PostS K T ρ σ H ρ2 (putsV is vs σ1) H1
  | [], [], vs, _, _, _, P, h, e => by
    cases e
    cases h
    exact P
  | i :: is, r :: rs, vs, ρ1, ρ2, σ1, P, h, e => by
    unfold putsR at e
    split at e
    · rename_i hw
      cases h with
      | val h1 h2 => exact puts_ok (is := is) (rs := rs) (P.put hw h1) (h2.own fun n m b e1 e2 z => z.of_put) e
      | new h1 h2 h3 h4 h5 h6 =>
        refine puts_ok (is := is) (rs := rs) (P.putNew hw h1 h2 h3 h4) (h6.own fun n m b e1 e2 z => ?_) e
        rcases own_new z with z | z
        · exact absurd z (h5 n m b e1 e2)
        · exact z
    · cases e
  | [], _ :: _, _, _, _, _, _, _, e => by simp [putsR] at e
  | _ :: _, [], _, _, _, _, _, _, e => by simp [putsR] at e
theorem puts_len : ∀ {is : List Nat} {rs : List Rs} {ρ1 ρ2 : Rho}, putsR is rs ρ1 = some ρ2 → rs.length = is.length
  | [], [], _, _, _ => rfl
  | i :: is, r :: rs, _, _, e => by
    unfold putsR at e
    split at e
    · cases r with
      | val d => rw [List.length_cons, List.length_cons, puts_len (is := is) (rs := rs) e]
      | new l => rw [List.length_cons, List.length_cons, puts_len (is := is) (rs := rs) e]
      | slot i => cases e
    · cases e
  | [], _ :: _, _, _, e => by simp [putsR] at e
  | _ :: _, [], _, _, e => by simp [putsR] at e
abbrev Er := Rho → Option (List Rs × Rho)
def tR (K : PySem.W.Frag) (T : List Addr) (f : Er) : TA := fun σ H Q => ∃ ρ rs ρ', RepS K T ρ σ H ∧ f ρ = some (rs, ρ') ∧ ∀ vs H', PostT K T ρ σ H ρ' H' → RL K ρ' σ H H' rs vs → Q vs H'
def SR (X : Cx) (T : List Addr) (es : List Expr) (f : Er) : Prop := PA X es (tR X.K T f)
def rNil : Er := fun ρ => some ([], ρ)
def rCons (f : Ev) (fs : Er) : Er := fun ρ => (fHalf f ρ).bind fun p => (fs p.2).bind fun q => match p.1 with
  | .slot _ => none
  | r => some (r :: q.1, q.2)
def cParR (is : List Nat) (fs : Er) : Es := fun ρ => (fs ρ).bind fun q => (putsR is q.1 q.2).map .nx
end
section
variable {X : Cx} {T : List Addr} {e a b c : Expr} {es : List Expr} {f f1 f2 f3 : Ev} {fs : Er} {pos p p2 : Pos}
theorem s_half (h : SE X T e f) : SE X T e (fHalf f) := by
  refine PE.imp (pe_frz h) fun σ H Q ⟨ρ, r, ρ', R, e, q⟩ => ?_
  obtain ⟨⟨r1, ρ1⟩, e1, e2⟩ := obind e
  refine ⟨ρ, r1, ρ1, R, e1, fun v H1 P => ?_⟩
  cases r1 with
  | val d => cases e2; exact .inl (q v H1 P)
  | new l => cases e2; exact .inl (q v H1 P)
  | slot i =>
    obtain ⟨⟨d, ρ2⟩, e3, e4⟩ := omap e2
    cases e4
    rcases P.fzn e3 with P' | ⟨a, xs, rfl, ha, P'⟩
    · exact .inl (q v H1 P')
    · exact .inr ⟨a, xs, rfl, ha, fun o => q _ _ (P' o)⟩
theorem sr_nil : SR X T [] rNil := by
  refine PA.imp pa_nil fun σ H Q ⟨ρ, ds, ρ', R, e, q⟩ => ?_
  cases e
  exact q [] H (PostT.refl R) .nil
theorem sr_cons (h : SE X T e f) (hs : SR X T es fs) (hst : starEach (e :: es) X.env = (false, eval e X.env) :: starEach es X.env := by rfl) : SR X T (e :: es) (rCons f fs) := by
  refine PA.imp (pa_cons (s_half h) hs hst) fun σ H Q ⟨ρ, ds, ρ', R, e, q⟩ => ?_
  obtain ⟨⟨r1, ρ1⟩, e1, e2⟩ := obind e
  obtain ⟨⟨rs, ρ2⟩, e3, e4⟩ := obind e2
  refine ⟨ρ, r1, ρ1, R, e1, fun v H1 P1 => ⟨ρ1, rs, ρ2, P1.rep, e3, fun vs H2 P2 t => ?_⟩⟩
  cases r1 with
  | slot i => cases e4
  | val d =>
    cases e4
    have res : Tr X.K H1 v d := P1.res
    exact q _ H2 (P1.toT.trans P2) (.val (res.keep (P2.keep P1.rep)) (t.dom fun b z => P1.fm.dom b z))
  | new l =>
    cases e4
    obtain ⟨a, xs, rfl, ha, ht, hn, h0⟩ := P1.res
    refine q _ H2 (P1.toT.trans P2) (.new (P2.fm.keep a _ ha (fun _ z => by cases z) hn) (ht.keep (P2.keep P1.rep)) (fun z => hn (P2.sub a z)) h0 (fun n m b e1 e2 z => ?_) (t.dom fun b z => P1.fm.dom b z))
    have := t.fresh n m b e1 e2
    rw [z, ha] at this
    cases this
theorem parR_core {is : List Nat} {D : Ends} {σ : Slots} {H : Hp} (h : tSt X.K T (cParR is fs) D σ H) : tR X.K T fs σ H fun vs H1 => vs.length = is.length ∧ D.nx (putsV is vs σ) H1 := by
  obtain ⟨ρ, w, R, e, h⟩ := h
  obtain ⟨⟨rs, ρ1⟩, e1, e2⟩ := obind e
  obtain ⟨ρ2, e3, e4⟩ := omap e2
  cases e4
  refine ⟨ρ, rs, ρ1, R, e1, fun vs H1 P t => ⟨?_, h _ H1 (puts_ok P.toS t e3)⟩⟩
  rw [t.len]
  exact puts_len e3
theorem len2 {α : Type} {xs : List α} (h : xs.length = 2) : ∃ a b, xs = [a, b] := by
  match xs, h with
  | [a, b], _ => exact ⟨a, b, rfl⟩
theorem ss_parR2 {i j : Nat} {x y : Str} {px py pt : Pos} {kt k2 pt2} (hc : X.calm = true) (hN : X.N.Nodup) (ha : SR X T [a, b] fs) (hi : X.N[i]? = some x := by rfl) (hj : X.N[j]? = some y := by rfl) (hij : i ≠ j := by decide)
    (hx : X.env.scope.names.lookup x = some .local := by rfl) (hy : X.env.scope.names.lookup y = some .local := by rfl)
    (hw : swappedStores [.Tuple [.Name x px, .Name y py] kt pt] (.Tuple [a, b] k2 pt2) X.env = pure (some [x, y]) := by rfl)
    (hs : swapsWithSole [.Tuple [.Name x px, .Name y py] kt pt] (.Tuple [a, b] k2 pt2) pos.line X.env = pure false := by rfl) : SS X T (.Assign [.Tuple [.Name x px, .Name y py] kt pt] (.Tuple [a, b] k2 pt2) pos) (cParR [i, j] fs) := by
  refine PS.imp (ps_par hc hN hi hj hij hx hy ha hw hs) fun D σ H q => ?_
  obtain ⟨ρ, rs, ρ', R, e, q⟩ := parR_core q
  refine ⟨ρ, rs, ρ', R, e, fun vs H1 P t => ?_⟩
  obtain ⟨hl, h⟩ := q vs H1 P t
  obtain ⟨v, w, rfl⟩ := len2 hl
  exact ⟨v, w, rfl, h⟩
theorem RL.ext {K : PySem.W.Frag} {ρ : Rho} {σ : Slots} {H H1 H2 : Hp} (k : ∀ b o, H1 b = some o → H2 b = some o) {rs : List Rs} {vs : List V} (h : RL K ρ σ H H1 rs vs) : RL K ρ σ H H2 rs vs := by
  have kk : KeepH H1 H2 := keep_ext k
  induction h with
  | nil => exact .nil
  | val h1 _ ih => exact .val (h1.keep kk) ih
  | new h1 h2 h3 h4 h5 _ ih => exact .new (k _ _ h1) (h2.keep kk) h3 h4 h5 ih
def hNeg : PD → Option Rs
  | .int i => some (.val (.int (-i)))
  | _ => none
theorem s_neg (h : SE X T a f) : SE X T (.UnaryOp .USub a pos) (fUn hNeg f) := by
  refine PE.imp (pe_un un_neg h) fun σ H Q ⟨ρ, rs, ρ', R, e, q⟩ => ?_
  obtain ⟨⟨r1, ρ1⟩, e1, e⟩ := obind e
  obtain ⟨d, k, e⟩ := obind e
  obtain ⟨r', hr, e⟩ := omap e
  cases e
  refine ⟨ρ, r1, _, R, e1, fun v H1 P => ?_⟩
  cases d <;> simp only [hNeg] at hr <;> first | (cases hr; done) | skip
  case int i =>
    cases hr
    exact ⟨i, (P.tw k).int, q _ _ (P.op (nr_val (.int _)))⟩
def hIsN (d : PD) (e : PD) : Option Rs := match e with
  | .none => (tyN d).map fun n => .val (.bool (n == "NoneType"))
  | _ => none
theorem b_isN {K : PySem.W.Frag} : BinR K (fun x y H Q => y = .non ∧ Q (.bl (decide (x = .non))) H) hIsN := by
  intro H x y d1 d2 r Q t1 t2 e q
  cases d2 <;> simp only [hIsN] at e <;> first | (cases e; done) | skip
  case none =>
    obtain ⟨n, e1, e2⟩ := omap e
    cases e2
    refine ⟨t2.none, ?_⟩
    have z : decide (x = .non) = (n == "NoneType") := by
      cases t1 with
      | tr h => cases h <;> (cases e1; rfl)
      | own h t => cases e1; rfl
    rw [z]
    exact q _ _ (nr_val (.bl _))
end
end Dv
set_option Elab.async false
set_option linter.all false
set_option maxRecDepth 100000
set_option maxHeartbeats 4000000
namespace Dv
open PySem PySem.Spec PyProof.Rows L2 Gq
theorem hu4 {A : Around} {k : Nat} (hr : Room k A) : A.units + 64 < cLine := by
  have := hr.un
  omega
structure Cal (P : Program) (w : World) (K : PySem.W.Frag) (mg : Str → Option Value) (base : Heap) (k : Nat) (x : Str) (ps : List Str) (sp : Sp) : Prop where
  ex : ∃ f fd, FnOk P w K mg base CX0 k f fd ps sp ∧ mg x = some (.ref f) ∧ PySem.W.keepIn K (.ref f) = true ∧ Binds K fd ps []
section
variable {X : Cx} {T : List Addr} {e : Expr} {es : List Expr} {fs : Ea} {pos p pos1 : Pos} {x y : Str} {k n : Nat} {ps : List Str} {F0 : Fn0} {F1 : Fn1}
theorem s_cal0 (C : Cal X.prog X.w X.K X.mg X.base k x ps (sp0 X.K T F0)) (hr : Room n X.A) (h : SA X T (e :: es) fs) (hkn : k ≤ n := by decide) (hg : Gl X x := by rfl)
    (hdb : (x == ("__debug__" : Str)) = false := by decide) (he : starEach (e :: es) X.env = (false, eval e X.env) :: starEach es X.env := by rfl) (hpl : (backTo pos (starEach es X.env)).any (·.1) = false := by rfl) : SE X T (.Call (.Name x p) (e :: es) [] pos) (fCall0 F0 fs) := by
  obtain ⟨f, fd, F, hm, hk, hb⟩ := C.ex
  exact s_call0 F (hr.mono hkn) hg hm hk hb h hdb he hpl
theorem s_cal1 (i : Nat) (C : Cal X.prog X.w X.K X.mg X.base k x ps (sp1 X.K T F1)) (hr : Room n X.A) (h : SA X T es fs) (hkn : k ≤ n := by decide) (hg : Gl X x := by rfl)
    (hN : X.N[i]? = some y := by rfl) (hv : Vis X.env.scope y := by first | exact Or.inl rfl | exact Or.inr (Or.inl rfl) | exact Or.inr (Or.inr rfl)) (hd : (y == ("__debug__" : Str)) = false := by decide) (hcd : (y == ("__classdict__" : Str)) = false := by decide)
    (hdb : (x == ("__debug__" : Str)) = false := by decide) (he : starEach (.Name y pos1 :: es) X.env = (false, eval (.Name y pos1) X.env) :: starEach es X.env := by rfl) (hpl : (backTo pos (starEach es X.env)).any (·.1) = false := by rfl) : SE X T (.Call (.Name x p) (.Name y pos1 :: es) [] pos) (fCall1 F1 i fs) := by
  obtain ⟨f, fd, F, hm, hk, hb⟩ := C.ex
  exact s_call1 i F (hr.mono hkn) hg hm hk hb h hN hv hd hcd hdb he hpl
end
structure FunC (K : PySem.W.Frag) (x : Str) (st : Stmt) (f c : Addr) (fd : FuncData) : Prop where
  ex : ∃ (oc : Value) (od : Option Addr) (kV doc pm : Value) (an : Option Addr) (ct : Value) (osl : Array (Option Value)),
    fd = PySem.W.fnOf x x (defArgs st) (defBody st) (defScope st) .none kV doc pm an (.ref c) ct ∧ K.lookup f = some ⟨oc, od, .func fd, osl⟩ ∧ PySem.W.codeIn K (.ref c) x = true
  kp : PySem.W.keepIn K (.ref f) = true
section
variable {P : Program} {w : World} {K : PySem.W.Frag} {mg : Str → Option Value} {base : Heap} {T : List Addr} {k : Nat} {f c : Addr} {x : Str} {st : Stmt} {fd : FuncData} {N ps : List Str} {b : Es}
theorem funC_mk {oc : Value} {od an : Option Addr} {osl : Array (Option Value)} {kV doc pm ct : Value} (l : K.lookup f = some ⟨oc, od, .func (PySem.W.fnOf x x (defArgs st) (defBody st) (defScope st) .none kV doc pm an (.ref c) ct), osl⟩)
    (hc : PySem.W.codeIn K (.ref c) x = true) (hk : PySem.W.keepIn K (.ref f) = true) : FunC K x st f c (PySem.W.fnOf x x (defArgs st) (defBody st) (defScope st) .none kV doc pm an (.ref c) ct) := ⟨⟨oc, od, kV, doc, pm, an, ct, osl, rfl, l, hc⟩, hk⟩
theorem FunC.binds (F : FunC K x st f c fd) (h : ∀ (kV doc pm : Value) (an : Option Addr) (ct : Value) (us : List Value), us.length = ps.length → bindArgs (PySem.W.fnOf x x (defArgs st) (defBody st) (defScope st) .none kV doc pm an (.ref c) ct) ⟨us, []⟩ = pure (ps.zip us)) : Binds K fd ps [] := by
  obtain ⟨oc, od, kV, doc, pm, an, ct, osl, rfl, lk, hcd⟩ := F.ex
  exact .all (h kV doc pm an ct)
def BodyOk (P : Program) (w : World) (K : PySem.W.Frag) (mg : Str → Option Value) (base : Heap) (T : List Addr) (k : Nat) (x : Str) (st : Stmt) (f c : Addr) (N : List Str) (b : Es) : Prop :=
  ∀ (A : Around) (outer : List Env) (s : Shared) (H : Hp) (E : XK), Room k (A.deeper (envOfC x (defScope st) s.heap.objs.size f (.ref c))) → SSs (cxOf CX0 P w K mg base N x (defScope st) f (.ref c) A outer s H E).nox T (defBody st) b
theorem cal0 (F : FunC K x st f c fd) (hm : mg x = some (.ref f)) (S : FnScope N ps (defScope st)) (hb : Binds K fd ps []) (h : BodyOk P w K mg base T k x st f c N b) : Cal P w K mg base (k + 1) x ps (sp0 K T (run0 ps.length N.length b)) := by
  obtain ⟨oc, od, kV, doc, pm, an, ct, osl, rfl, lk, hcd⟩ := F.ex
  exact ⟨f, _, fn0 lk hcd S fun A outer s H E hr => (h A outer s H E hr).nox, hm, F.kp, hb⟩
theorem cal1 (F : FunC K x st f c fd) (hm : mg x = some (.ref f)) (S : FnScope N ps (defScope st)) (hN : ps.length ≤ N.length) (hb : Binds K fd ps []) (h : BodyOk P w K mg base T k x st f c N b) : Cal P w K mg base (k + 1) x ps (sp1 K T (run1 ps.length N.length b)) := by
  obtain ⟨oc, od, kV, doc, pm, an, ct, osl, rfl, lk, hcd⟩ := F.ex
  exact ⟨f, _, fn1 lk hcd S hN fun A outer s H E hr => (h A outer s H E hr).nox, hm, F.kp, hb⟩
def st0 (own : Bool) (ns : List Int) : Slt := if own = true then .own false (ns.map .int) else .val (.list (ns.map .int))
def spL (K : PySem.W.Frag) (T : List Addr) (n : Nat) (b : Es) : Sp := fun vs H Q _ => ∃ (a : Addr) (ns : List Int), vs = [.ref a] ∧ (∀ P ∈ T, TabR H P) ∧ SqL K H a (ns.map V.int) ∧ (∀ own, ∃ ρ', b (st0 own ns :: noS n) = some (.rt (.bool true) ρ')) ∧ ∀ H', Q (.bl true) H'
theorem rep_law {H : Hp} {a : Addr} {ns : List Int} (hT : ∀ P ∈ T, TabR H P) (hS : SqL K H a (ns.map V.int)) (n : Nat) : ∃ own, RepS K T (st0 own ns :: noS n) (some (.ref a) :: List.replicate n none) H := by
  have no : ∀ (own : Bool) (i : Nat) (x : Slt), (st0 own ns :: noS n)[i]? = some x → x ≠ .no → i = 0 ∧ x = st0 own ns := fun own i x e hx => by
    cases i with
    | zero => simp at e; exact ⟨rfl, e.symm⟩
    | succ i =>
      simp [noS, List.getElem?_replicate] at e
      exact absurd e.2.symm hx
  have mk : ∀ own, (∀ d, st0 own ns = .val d → Tr K H (.ref a) d) → (∀ bo l, st0 own ns = .own bo l → H a = some (.lst (ns.map V.int)) ∧ TrA K H (ns.map V.int) l) → RepS K T (st0 own ns :: noS n) (some (.ref a) :: List.replicate n none) H := fun own h1 h2 => by
    refine ⟨fun i d e => ?_, fun i bo l e => ?_, fun i j bo l bo' l' b e1 e2 _ _ => ?_, hT, by simp [noS]⟩
    · obtain ⟨rfl, e2⟩ := no own i _ e (fun z => by cases z)
      exact ⟨_, rfl, h1 d e2.symm⟩
    · obtain ⟨rfl, e2⟩ := no own i _ e (fun z => by cases z)
      obtain ⟨q1, q2⟩ := h2 bo l e2.symm
      exact ⟨a, _, rfl, q1, q2⟩
    · rw [(no own i _ e1 (fun z => by cases z)).1, (no own j _ e2 (fun z => by cases z)).1]
  rcases hS with (h | ⟨o, h⟩) | ⟨o, its, m, h⟩
  · refine ⟨true, mk true (fun d e => by cases e) fun bo l e => ?_⟩
    cases e
    exact ⟨h, tr_ints ns⟩
  · refine ⟨false, mk false (fun d e => ?_) fun bo l e => by cases e⟩
    cases e
    exact .lst (.inl ⟨o, h⟩) (tr_ints ns)
  · refine ⟨false, mk false (fun d e => ?_) fun bo l e => by cases e⟩
    cases e
    exact .lst (.inr ⟨o, its, m, h⟩) (tr_ints ns)
theorem calL {y : Str} (F : FunC K x st f c fd) (S : FnScope N [y] (defScope st)) (hN : 1 ≤ N.length) (h : BodyOk P w K mg base T k x st f c N b) : FnOk P w K mg base CX0 (k + 1) f fd [y] (spL K T (N.length - 1) b) := by
  obtain ⟨oc, od, kV, doc, pm, an, ct, osl, rfl, lk, hcd⟩ := F.ex
  refine fn_of lk hcd S (fun vs H Q E h => ?_) (fun A outer s H vs Q E hr hh => ⟨_, (h A outer s H E hr).nox, ?_⟩)
  · obtain ⟨a, ns, rfl, _⟩ := h
    rfl
  · obtain ⟨a, ns, rfl, hT, hS, ok, q⟩ := hh
    obtain ⟨own, R⟩ := rep_law (T := T) hT hS (N.length - 1)
    obtain ⟨ρ', e⟩ := ok own
    refine ⟨_, _, R, e, fun v σ' H' P' t => ?_⟩
    cases t
    exact q H'
end
end Dv
namespace Gq
open PySem PySem.Spec PyProof.Rows L2
def isFr : NameKind → Bool
  | .free => true
  | _ => false
def isCe : NameKind → Bool
  | .cell => true
  | _ => false
def isLo : NameKind → Bool
  | .local => true
  | _ => false
theorem isFr_iff {k : NameKind} : isFr k = true ↔ k = .free := by cases k <;> simp [isFr]
theorem isCe_iff {k : NameKind} : isCe k = true ↔ k = .cell := by cases k <;> simp [isCe]
theorem isLo_iff {k : NameKind} : isLo k = true ↔ k = .local := by cases k <;> simp [isLo]
def fnK : ScopeKind → Bool
  | .function => true
  | _ => false
theorem fnK_iff {k : ScopeKind} : fnK k = true ↔ k = .function := by cases k <;> simp [fnK]
def oFr (k : Option NameKind) : Bool := match k with
  | some .cell => true
  | some .free => true
  | _ => false
theorem oFr_iff {k : Option NameKind} (h : oFr k = true) : k = some .cell ∨ k = some .free := by
  cases k with
  | none => cases h
  | some k => cases k <;> first | exact .inl rfl | exact .inr rfl | cases h
def freeB (sc scope : Scope) : Bool := scope.names.all fun y => !isFr y.2 || oFr (sc.names.lookup y.1)
theorem free_of {sc scope : Scope} (h : freeB sc scope = true) : ∀ y ∈ scope.names, y.2 = .free → sc.names.lookup y.1 = some .cell ∨ sc.names.lookup y.1 = some .free := fun y hy e => by
  have h1 := List.all_eq_true.mp h y hy
  rw [isFr_iff.mpr e] at h1
  exact oFr_iff (by simpa using h1)
def sameK (k : Option NameKind) (j : NameKind) : Bool := match k with
  | some i => decide (i = j)
  | none => false
theorem sameK_of {k : Option NameKind} {j : NameKind} (h : sameK k j = true) : k = some j := by
  cases k with
  | none => cases h
  | some i => rw [of_decide_eq_true (show decide (i = j) = true from h)]
def blkB (N : List Str) (sc scope : Scope) (own : List (Str × Nat)) : Bool :=
  fnK scope.kind && (scope.names.all fun y => sameK (scope.names.lookup y.1) y.2) && (own.all fun p => N[p.2]? == some p.1) && freeB sc scope && scope.names.all fun y => !(isLo y.2 || isCe y.2) || (own.map (·.1)).contains y.1 || !N.contains y.1
theorem blk_of {N : List Str} {sc scope : Scope} {own : List (Str × Nat)} (h : blkB N sc scope own = true) : BlkOk N sc scope own := by
  unfold blkB at h
  simp only [Bool.and_eq_true] at h
  obtain ⟨⟨⟨⟨h1, h2⟩, h3⟩, h4⟩, h5⟩ := h
  refine ⟨fnK_iff.mp h1, fun y hy => sameK_of (List.all_eq_true.mp h2 y hy), fun p hp => eq_of_beq (List.all_eq_true.mp h3 p hp), free_of h4, fun y hy e => ?_⟩
  have z := List.all_eq_true.mp h5 y hy
  have lc : (isLo y.2 || isCe y.2) = true := by
    rcases e with e | e
    · rw [isLo_iff.mpr e]; rfl
    · rw [isCe_iff.mpr e]; exact Bool.or_true _
  rw [lc] at z
  simp only [Bool.not_true, Bool.false_or, Bool.or_eq_true, Bool.not_eq_true', List.contains_eq_mem, decide_eq_true_eq, decide_eq_false_iff_not] at z
  exact z
def noDup : List Str → Bool
  | [] => true
  | x :: xs => !xs.contains x && noDup xs
theorem noDup_of : ∀ {xs : List Str}, noDup xs = true → xs.Nodup
  | [], _ => .nil
  | x :: xs, h => by
    unfold noDup at h
    rw [Bool.and_eq_true] at h
    exact List.nodup_cons.mpr ⟨by simpa using h.1, noDup_of h.2⟩
def visB (N N' : List Str) (names : List (Str × NameKind)) : Bool := (List.range N.length).all fun i => match N'[i]? with
  | none => true
  | some x => match names.lookup x with
    | some .free => N[i]? == some x
    | some .local => false
    | some .cell => false
    | _ => true
theorem vis_of {N N' : List Str} {scope : Scope} (h : visB N N' scope.names = true) : ∀ (i : Nat) (x : Str), i < N.length → N'[i]? = some x → Vis scope x → N[i]? = some x ∧ scope.names.lookup x = some .free := fun i x hi hx hv => by
  have h1 := List.all_eq_true.mp h i (List.mem_range.mpr hi)
  simp only [hx] at h1
  rcases hv with z | z | z
  · rw [z] at h1; cases h1
  · rw [z] at h1; cases h1
  · rw [z] at h1
    exact ⟨eq_of_beq h1, z⟩
def gscB (N N' : List Str) (sc scope : Scope) : Bool :=
  fnK scope.kind && !scope.isCoroutine && noDup (scope.names.map (·.1)) && sameK (scope.names.lookup (".0" : Str)) .local && freeB sc scope && decide (N.length ≤ N'.length) && visB N N' scope.names && noDup N'
theorem gsc_of {X : Cx} {N' : List Str} {scope : Scope} (h : gscB X.N N' X.env.scope scope = true) : GScp X scope N' := by
  unfold gscB at h
  simp only [Bool.and_eq_true] at h
  obtain ⟨⟨⟨⟨⟨⟨⟨h1, h2⟩, h3⟩, h4⟩, h5⟩, h6⟩, h7⟩, h8⟩ := h
  exact ⟨fnK_iff.mp h1, by simpa using h2, noDup_of h3, sameK_of h4, free_of h5, of_decide_eq_true h6, vis_of h7, noDup_of h8⟩
end Gq
set_option Elab.async false
set_option linter.all false
set_option maxRecDepth 100000
set_option maxHeartbeats 4000000
namespace Dv
open PySem PySem.Spec PyProof.Rows L2 Gq
def TabsOf (K : PySem.W.Frag) (h : Heap) (xs : List Str) : Prop := ∀ (x : Str) (c P : Addr), x ∈ xs → PySem.W.tabIn K x = some (c, P) → PySem.W.CodeHd h c P ∧ h.get? P = some (PySem.W.tabObj #[]) ∧ K.lookup P = none
theorem mem_look {a : Addr} {o : Obj} : ∀ {K : List (Addr × Obj)}, K.lookup a = some o → (a, o) ∈ K
  | [], e => by cases e
  | (b, u) :: K, e => by
    rw [List.lookup_cons] at e
    split at e
    · rename_i h
      cases e
      rw [eq_of_beq h]
      exact List.mem_cons_self
    · exact List.mem_cons_of_mem _ (mem_look e)
theorem no_tab {K : PySem.W.Frag} {h : Heap} {P : Addr} (X : K.In h) (hn : PySem.W.noTabs K = true) (hP : h.get? P = some (PySem.W.tabObj #[])) : K.lookup P = none := by
  cases e : K.lookup P with
  | none => rfl
  | some o =>
    exfalso
    have g := X P o e
    rw [hP] at g
    cases g
    have m := mem_look e
    have z := List.all_eq_true.mp hn _ m
    cases z
theorem tabIn_mk {K : PySem.W.Frag} {x : Str} {f c P : Addr} {fd : FuncData} {oc oq : Value} {od dq : Option Addr} {sl sq : Array (Option Value)} {vs : Array Value} (a : PySem.W.nsIn K mainGlobals x = some (some (.ref f))) (l : K.lookup f = some ⟨oc, od, .func fd, sl⟩) (hc : fd.code = .ref c)
    (q : K.lookup c = some ⟨oq, dq, .fields vs, sq⟩) (r : vs[11]? = some (.ref P)) : PySem.W.tabIn K x = some (c, P) := by
  unfold PySem.W.tabIn
  rw [a]
  simp only [l, hc, q, r]
theorem walk_tabs {l : PySem.W.OpenLaw} {n k : Nat} {q : Program} {loose : List Str} {XP : (Str → Option Value) → Heap → Prop} {YP : World → Heap → Prop} {d : DefRec} {K : Params → PySem.W.Frag} {x : Str} (xs : List Str)
    (hn : l.most = some n) (hdf : d.params.defaults = []) (hY : ∀ (w : World) (h : Heap), YP w h → (K w.params).In h) (hnt : ∀ p, PySem.W.noTabs (K p) = true) (hrec : (xs.all fun x => ((recsOf q).find? fun e => e.name == x).isSome) = true)
    (F : ∀ (w : World) (mg : Str → Option Value) (fa : Addr) (h : Heap), (K w.params).In h → h.Ns mainGlobals mg → mg d.name = some (.ref fa) → TabsOf (K w.params) h xs → LamX.LawAtS l w (K w.params) CX0 k n x mg fa h) (hn2 : n ≤ sizeLine) (hr : Room k callerA) :
    PySem.W.WalkO q loose XP YP l.row.toRowW d [] (fun f vs => PySem.call f vs) := by
  refine Att.attach_callB hn hdf fun w s0 s1 mg mb fa o pm cd doc a vs ns Gr Y ho hd hcd hmg hobj hints hlen hbits hg0 => ?_
  have X := hY w _ Y
  have tabs : TabsOf (K w.params) s1.heap xs := fun y c P hy ht => by
    have z := List.all_eq_true.mp hrec y hy
    obtain ⟨d', e⟩ := Option.isSome_iff_exists.mp z
    obtain ⟨h1, h2⟩ := PySem.W.tab_of Gr.T X e ht
    exact ⟨h1, h2, no_tab X (hnt _) h2⟩
  obtain ⟨fd, cs, sp, t1, t2, t3, t4, t5, t6⟩ := F w mg fa _ X Gr.T.g hmg tabs
  exact LamX.law_callTs X Gr.T.g Gr.T.b Gr.T.builtins Gr.T.nolimit hg0 t1 t2 t3 Gr.T.bmain hobj hints (Nat.le_trans hlen hn2) hr t6 t4
    (fun H hH hS => t5 H a ns hlen hbits hH hS) fun H e s' z => z
theorem tabG_nil {H : Hp} {P : Addr} (h : H P = some (.tbl #[])) : TabR H P := tabR_nil h
end Dv
set_option Elab.async false
set_option linter.all false
set_option maxRecDepth 100000
set_option maxHeartbeats 4000000
namespace Lw
open PySem PySem.Spec PyProof.Rows L2 Gq Dv
def c_taken : Es :=
  (cSeq (cIf (fTst (fBin (hB iGt) (fBin hIx (fLoc 0) (fCst (.int 3))) (fCst (.int 0)))) (cSeq (cAsg 2 (fBin (hI iMod) (fUn hInt (fBin hIx (fLoc 0) (fCst (.int 3)))) (fLoc 1)))
  (cSeq (cSetIx 0 (fBin (hI iDiv) (fBin hIx (fLoc 0) (fCst (.int 3))) (fLoc 1)) (fCst (.int 3)))
  (cRet (fLoc 2)))) cNil)
  (cSeq (cSetIx 0 (fBin hAdd (fBin hIx (fLoc 0) (fCst (.int 1))) (fCst (.int 1))) (fCst (.int 1)))
  (cSeq (cIf (fTst (fBin (hB iGt) (fBin hIx (fLoc 0) (fCst (.int 1))) (fUn hLen (fBin hIx (fLoc 0) (fCst (.int 0)))))) (cSeq (cSetIx 0 (fBin (hI iMod) (fUn hInt (fBin hAdd (fBin (hI iMul) (fBin hIx (fLoc 0) (fCst (.int 2))) (fCst (.int 48271))) (fCst (.int 11)))) (fCst (.int 2147483647))) (fCst (.int 2)))
  (cRet (fBin (hI iMod) (fUn hInt (fBin (hI iDiv) (fBin hIx (fLoc 0) (fCst (.int 2))) (fCst (.int 7)))) (fLoc 1)))) cNil)
  (cSeq (cAsg 3 (fBin hIx (fBin hIx (fLoc 0) (fCst (.int 0))) (fBin (hI iSub) (fBin hIx (fLoc 0) (fCst (.int 1))) (fCst (.int 1)))))
  (cSeq (cSetIx 0 (fBin (hI iMod) (fUn hInt (fBin hAdd (fBin hAdd (fBin (hI iMul) (fBin hIx (fLoc 0) (fCst (.int 2))) (fCst (.int 48271))) (fLoc 3)) (fCst (.int 11)))) (fCst (.int 2147483647))) (fCst (.int 2)))
  (cSeq (cIf (fTst (fBin (hB iGe) (fLoc 3) (fBin (hI iPow) (fCst (.int 10)) (fCst (.int 18))))) (cSetIx 0 (fBin (hI iDiv) (fLoc 3) (fLoc 1)) (fCst (.int 3))) cNil)
  (cRet (fBin (hI iMod) (fUn hInt (fLoc 3)) (fLoc 1)))))))))
def F_taken : Fn1 := run1 2 4 c_taken
structure RowOk (r : List PD) : Prop where
  ex : ∃ (ns : List Int) (a b c : Int), r = [.list (ns.map .int), .int a, .int b, .int c] ∧ 0 ≤ a ∧ 0 ≤ b ∧ b < 2147483647
theorem atI_nat {α : Type} {xs : List α} {i : Int} (h0 : 0 ≤ i) (h1 : i < xs.length) : atI xs i = xs[i.toNat]? := by
  unfold atI ixN
  rw [if_pos h0, if_pos h1]; rfl
theorem at0 {α : Type} {x : α} {xs : List α} : atI (x :: xs) 0 = some x := by rw [atI_nat (by decide) (by simp only [List.length_cons]; omega)]; rfl
theorem at1 {α : Type} {x y : α} {xs : List α} : atI (x :: y :: xs) 1 = some y := by rw [atI_nat (by decide) (by simp only [List.length_cons]; omega)]; rfl
theorem at2 {α : Type} {x y z : α} {xs : List α} : atI (x :: y :: z :: xs) 2 = some z := by rw [atI_nat (by decide) (by simp only [List.length_cons]; omega)]; rfl
theorem at3 {α : Type} {x y z u : α} {xs : List α} : atI (x :: y :: z :: u :: xs) 3 = some u := by rw [atI_nat (by decide) (by simp only [List.length_cons]; omega)]; rfl
theorem iMul_ok {b : Int} (h0 : 0 ≤ b) (h1 : b < 2147483647) : iMul b 48271 = some (b * 48271) := by
  unfold iMul
  refine if_pos ?_
  have h2 : b.natAbs < 2 ^ 31 := by omega
  have x := PySem.Flt.log2_lt_of (by decide : 0 < 31) h2
  have y : (48271 : Int).natAbs.log2 < 16 := by decide
  omega
theorem taken_ok {r : List PD} {m : Int} (R : RowOk r) (h0 : 0 < m) (h1 : m < 100) : ∃ v r', F_taken r [.int m] = some (.int v, r') ∧ RowOk r' ∧ 0 ≤ v ∧ v < m := by
  obtain ⟨ns, a, b, c, rfl, ha, hb, hb2⟩ := R.ex
  have em : ∀ i : Int, iMod i m = some (i % m) := fun i => if_pos h0
  have ed : ∀ i : Int, iDiv i m = some (i / m) := fun i => if_pos ⟨h0, by
    have x := PySem.Flt.log2_lt_of (by decide : 0 < 7) (show m.natAbs < 2 ^ 7 by omega)
    omega⟩
  have e7 : ∀ i : Int, iDiv i 7 = some (i / 7) := fun i => if_pos ⟨by decide, by decide⟩
  have eM : ∀ i : Int, iMod i 2147483647 = some (i % 2147483647) := fun i => if_pos (by decide)
  have eP : iPow 10 18 = some 1000000000000000000 := by decide
  have v0 : ∀ i : Int, 0 ≤ i % m ∧ i % m < m := fun i => ⟨Int.emod_nonneg _ (by omega), Int.emod_lt_of_pos _ h0⟩
  have w0 : ∀ i : Int, 0 ≤ i % 2147483647 ∧ i % 2147483647 < 2147483647 := fun i => ⟨Int.emod_nonneg _ (by decide), Int.emod_lt_of_pos _ (by decide)⟩
  by_cases hc : 0 < c
  · refine ⟨c % m, [.list (ns.map .int), .int a, .int b, .int (c / m)], ?_, ⟨ns, a, b, _, rfl, ha, hb, hb2⟩, v0 c⟩
    simp [F_taken, run1, c_taken, cSeq, cIf, fTst, fBin, fLoc, fCst, pk, hIx, at3, hB, iGt, hc, cAsg, fUn, hInt, hI, em, ed, wr, cSetIx, fVal, fzn, ixN, cRet, out0, noS, cNil, List.replicate]
  · by_cases hl : (ns.length : Int) < a + 1
    · refine ⟨(b * 48271 + 11) % 2147483647 / 7 % m, [.list (ns.map .int), .int (a + 1), .int ((b * 48271 + 11) % 2147483647), .int c], ?_, ⟨ns, _, _, _, rfl, by omega, w0 _⟩, v0 _⟩
      simp [F_taken, run1, c_taken, cSeq, cIf, fTst, fBin, fLoc, fCst, pk, hIx, at0, at1, at2, at3, hB, iGt, hc, hl, cAsg, fUn, hInt, hLen, hAdd, hI, em, ed, e7, eM, iMul_ok hb hb2, wr, cSetIx, fVal, fzn, ixN, cRet, out0, noS, cNil, List.replicate]
    · have hi : atI (ns.map PyData.int) a = some (.int (ns.getD a.toNat 0)) := by
        rw [atI_nat ha (by rw [List.length_map]; omega), List.getElem?_map, List.getD_eq_getElem?_getD, List.getElem?_eq_getElem (by omega)]; rfl
      by_cases hd : 1000000000000000000 ≤ ns.getD a.toNat 0
      · refine ⟨ns.getD a.toNat 0 % m, [.list (ns.map .int), .int (a + 1), .int ((b * 48271 + ns.getD a.toNat 0 + 11) % 2147483647), .int (ns.getD a.toNat 0 / m)], ?_, ⟨ns, _, _, _, rfl, by omega, w0 _⟩, v0 _⟩
        simp [F_taken, run1, c_taken, cSeq, cIf, fTst, fBin, fLoc, fCst, pk, hIx, at0, at1, at2, at3, hi, hB, iGt, iGe, hc, hl, hd, cAsg, fUn, hInt, hLen, hAdd, hI, em, ed, e7, eM, eP, iSub, iMul_ok hb hb2, wr, cSetIx, fVal, fzn, ixN, cRet, out0, noS, cNil, List.replicate, -List.getD_eq_getElem?_getD]
      · refine ⟨ns.getD a.toNat 0 % m, [.list (ns.map .int), .int (a + 1), .int ((b * 48271 + ns.getD a.toNat 0 + 11) % 2147483647), .int c], ?_, ⟨ns, _, _, _, rfl, by omega, w0 _⟩, v0 _⟩
        simp [F_taken, run1, c_taken, cSeq, cIf, fTst, fBin, fLoc, fCst, pk, hIx, at0, at1, at2, at3, hi, hB, iGt, iGe, hc, hl, hd, cAsg, fUn, hInt, hLen, hAdd, hI, em, ed, e7, eM, eP, iSub, iMul_ok hb hb2, wr, cSetIx, fVal, fzn, ixN, cRet, out0, noS, cNil, List.replicate, -List.getD_eq_getElem?_getD]
end Lw
set_option Elab.async false
set_option linter.all false
set_option maxRecDepth 100000
set_option maxHeartbeats 4000000
namespace Lw
open PySem PySem.Spec PyProof.Rows L2 Gq Dv
def ls (xs : List Int) : List PD := xs.map .int
theorem ls_len (xs : List Int) : (ls xs).length = xs.length := List.length_map _
theorem big_sz {n : Nat} (h : n ≤ 100) : n < sizeLine := by
  have : (100 : Nat) < sizeLine := by decide
  omega
theorem seq_nx {p1 p2 : Es} {ρ ρ1 : Rho} {w : Option Fw} (h : p1 ρ = some (.nx ρ1)) (h2 : p2 ρ1 = w) : cSeq p1 p2 ρ = w := by
  unfold cSeq
  rw [h, Option.bind_some]
  exact h2
theorem for_eq {fi : Ea} {st : PD → Rho → Option Rho} {b : Es} {ρ ρ1 : Rho} {ds : List PD} {w : Option Fw} (h : fi ρ = some (ds, ρ1)) (h2 : forL st b ds ρ1 = w) : cFor fi st b ρ = w := by
  unfold cFor
  rw [h, Option.bind_some]
  exact h2
theorem run1_rt {np nN : Nat} {body : Es} {l l' : List PD} {ds : List PD} {d : PD} {ρ : Rho} (hn : ds.length + 1 = np) (h : body (.own true l :: (ds.map Slt.val ++ noS (nN - np))) = some (.rt d ρ)) (h2 : ρ[0]? = some (.own true l')) : run1 np nN body l ds = some (d, l') := by
  unfold run1
  rw [if_pos hn, h, Option.bind_some]
  show out0 d ρ = _
  unfold out0
  rw [h2]
theorem run0_rt {np nN : Nat} {body : Es} {ds : List PD} {d : PD} {ρ : Rho} (hn : ds.length = np) (h : body (ds.map Slt.val ++ noS (nN - np)) = some (.rt d ρ)) : run0 np nN body ds = some d := by
  unfold run0
  rw [if_pos hn, h, Option.bind_some]
theorem run0_nx {np nN : Nat} {body : Es} {ds : List PD} {ρ : Rho} (hn : ds.length = np) (h : body (ds.map Slt.val ++ noS (nN - np)) = some (.nx ρ)) : run0 np nN body ds = some .none := by
  unfold run0
  rw [if_pos hn, h, Option.bind_some]
structure DepOk (n : Nat) (D : List Int) : Prop where
  len : D.length = n
  rng : ∀ (i : Nat) (h : i < D.length), -1 ≤ D[i] ∧ D[i] < n
  ne : ∀ (i : Nat) (h : i < D.length), D[i] ≠ (i : Int)
end Lw
set_option Elab.async false
set_option linter.all false
set_option maxRecDepth 100000
set_option maxHeartbeats 4000000
namespace Lw
open PySem PySem.Spec PyProof.Rows L2 Gq Dv
theorem comp_eq {vs : List Nat} {fi : Ea} {st : PD → Rho → Option Rho} {g : Et} {fe : Ev} {ρ ρ1 ρ2 : Rho} {ds ys : List PD} (h : fi ρ = some (ds, ρ1)) (h2 : cmpL vs st g fe ds ρ1 = some (ys, ρ2)) (hl : ys.length ≤ sizeLine) : fComp vs fi st g fe ρ = some (.new ys, unw ρ1 ρ2 vs) := by
  unfold fComp
  rw [h, Option.bind_some, h2, Option.bind_some]
  exact if_pos hl
structure LotOk (n : Nat) (g : List Int) : Prop where
  asc : g.Pairwise (· < ·)
  rng : ∀ x ∈ g, 0 ≤ x ∧ x < n
def c_pick : Es :=
  (cRet (fBin hIx (fLoc 1) (fCall1 F_taken 0 (aCons (fUn hLen (fLoc 1)) aNil))))
def F_pick : Fn1 := run1 2 2 c_pick
theorem bin_eq {h : PD → PD → Option Rs} {f1 f2 : Ev} {ρ ρ1 ρ2 : Rho} {r1 r2 r : Rs} {d1 d2 : PD} (h1 : f1 ρ = some (r1, ρ1)) (h2 : f2 ρ1 = some (r2, ρ2)) (k1 : pk r1 ρ2 = some d1) (k2 : pk r2 ρ2 = some d2) (hh : h d1 d2 = some r) : fBin h f1 f2 ρ = some (r, ρ2) := by
  unfold fBin
  rw [h1, Option.bind_some]
  simp only [h2, Option.bind_some, k1, k2, hh, Option.map_some]
theorem un_eq {h : PD → Option Rs} {f : Ev} {ρ ρ1 : Rho} {r1 r : Rs} {d : PD} (h1 : f ρ = some (r1, ρ1)) (k : pk r1 ρ1 = some d) (hh : h d = some r) : fUn h f ρ = some (r, ρ1) := by
  unfold fUn
  rw [h1, Option.bind_some]
  simp only [k, Option.bind_some, hh, Option.map_some]
theorem val_eq {f : Ev} {ρ ρ1 ρ2 : Rho} {r : Rs} {d : PD} (h : f ρ = some (r, ρ1)) (hf : fzn r ρ1 = some (d, ρ2)) : fVal f ρ = some (.val d, ρ2) := by
  unfold fVal
  rw [h, Option.bind_some, hf]; rfl
theorem val_v {f : Ev} {ρ ρ1 : Rho} {d : PD} (h : f ρ = some (.val d, ρ1)) : fVal f ρ = some (.val d, ρ1) := val_eq h rfl
theorem if_tt {g : Et} {p1 p2 : Es} {ρ ρ1 : Rho} {w : Option Fw} (h : g ρ = some (true, ρ1)) (h2 : p1 ρ1 = w) : cIf g p1 p2 ρ = w := by
  unfold cIf
  rw [h, Option.bind_some]
  exact h2
theorem if_ff {g : Et} {p1 p2 : Es} {ρ ρ1 : Rho} {w : Option Fw} (h : g ρ = some (false, ρ1)) (h2 : p2 ρ1 = w) : cIf g p1 p2 ρ = w := by
  unfold cIf
  rw [h, Option.bind_some]
  exact h2
theorem isi_int (i : Int) : isiD "int" (.int i) = some true := by
  show isiD "int" (.int 0) = some true
  decide +kernel
end Lw
set_option Elab.async false
set_option linter.all false
set_option maxRecDepth 100000
set_option maxHeartbeats 4000000
namespace Lw
def nx (D : List Int) (k : Int) : Int := if k < 0 then -1 else D.getD k.toNat (-1)
def it (D : List Int) : Nat → Int → Int
  | 0, k => k
  | i + 1, k => nx D (it D i k)
def pre (D : List Int) (k : Int) (t : Nat) : List Int := (List.range t).map fun i => it D i k
theorem pre_mem {D : List Int} {k x : Int} {t : Nat} : x ∈ pre D k t ↔ ∃ i, i < t ∧ it D i k = x := by simp [pre]
theorem it_loop {D : List Int} {k : Int} {t : Nat} (h : it D t k ∈ pre D k t) : ∀ m, it D m k ∈ pre D k t := by
  obtain ⟨j, hj, e⟩ := pre_mem.mp h
  intro m
  induction m with
  | zero => exact pre_mem.mpr ⟨0, by omega, rfl⟩
  | succ m ih =>
    obtain ⟨i, hi, e2⟩ := pre_mem.mp ih
    have e3 : it D (m + 1) k = it D (i + 1) k := by show nx D (it D m k) = nx D (it D i k); rw [e2]
    rw [e3]
    by_cases q : i + 1 < t
    · exact pre_mem.mpr ⟨i + 1, q, rfl⟩
    · have : i + 1 = t := by omega
      rw [this]; exact h
structure ChainP (D : List Int) (k : Int) (t : Nat) : Prop where
  nd : (pre D k t).Nodup
  no : (-1 : Int) ∉ pre D k t
  fin : it D t k = -1 ∨ it D t k ∈ pre D k t
theorem pigeon : ∀ {n : Nat} {xs : List Int}, xs.Nodup → (∀ x ∈ xs, 0 ≤ x ∧ x < n) → xs.length ≤ n
  | 0, [], _, _ => Nat.le_refl _
  | 0, x :: xs, _, h => by have := h x List.mem_cons_self; omega
  | n + 1, xs, nd, h => by
    by_cases hm : (n : Int) ∈ xs
    · have p := List.perm_cons_erase hm
      have nd2 : (xs.erase n).Nodup := nd.erase _
      have hne : ∀ x ∈ xs.erase n, 0 ≤ x ∧ x < n := fun x hx => by
        have hx2 := (List.Nodup.mem_erase_iff nd).mp hx
        have := h x hx2.2
        have := hx2.1
        omega
      have ih := pigeon nd2 hne
      have := p.length_eq
      rw [List.length_cons] at this
      omega
    · have ih := pigeon (n := n) nd fun x hx => by
        have h1 := h x hx
        have : x ≠ n := fun z => hm (z ▸ hx)
        omega
      omega
end Lw
set_option Elab.async false
set_option linter.all false
set_option maxRecDepth 100000
set_option maxHeartbeats 4000000
namespace Lw
open PySem PySem.Spec PyProof.Rows L2 Gq Dv
theorem call0_eq {F : Fn0} {fs : Ea} {ρ ρ1 : Rho} {ds : List PD} {d : PD} (h : fs ρ = some (ds, ρ1)) (h2 : F ds = some d) : fCall0 F fs ρ = some (.val d, ρ1) := by
  unfold fCall0
  rw [h, Option.bind_some]
  simp only [h2, Option.map_some]
theorem asg_val {i : Nat} {f : Ev} {ρ ρ1 : Rho} {d : PD} (h : f ρ = some (.val d, ρ1)) (hw : wr ρ1 i = true) : cAsg i f ρ = some (.nx (ρ1.set i (.val d))) := by
  unfold cAsg
  rw [h, Option.bind_some]
  simp only [hw, if_true]
theorem asg_new {i : Nat} {f : Ev} {ρ ρ1 : Rho} {l : List PD} (h : f ρ = some (.new l, ρ1)) (hw : wr ρ1 i = true) : cAsg i f ρ = some (.nx (ρ1.set i (.own false l))) := by
  unfold cAsg
  rw [h, Option.bind_some]
  simp only [hw, if_true]
theorem exp_eq {f : Ev} {ρ ρ1 : Rho} {r : Rs} (h : f ρ = some (r, ρ1)) : cExp f ρ = some (.nx ρ1) := by
  unfold cExp
  rw [h]; rfl
theorem acons_eq {f : Ev} {fs : Ea} {ρ ρ1 ρ2 : Rho} {d : PD} {ds : List PD} (h : fVal f ρ = some (.val d, ρ1)) (h2 : fs ρ1 = some (ds, ρ2)) : aCons f fs ρ = some (d :: ds, ρ2) := by
  unfold aCons
  rw [h, Option.bind_some]
  simp only [h2, Option.map_some]
end Lw
set_option Elab.async false
set_option linter.all false
set_option maxRecDepth 100000
set_option maxHeartbeats 4000000
namespace Dv
open PySem PySem.Spec PyProof.Rows L2 Gq
section
variable {X : Cx} {T : List Addr} {e a b c : Expr} {f f1 f2 : Ev} {pos p p2 q : Pos}
theorem rgV_tr {K : PySem.W.Frag} {H : Hp} (lo hi : Int) : TrA K H (rgV lo hi) (rngL lo (hi - lo).toNat) := by
  unfold rgV rngL
  induction List.range (hi - lo).toNat with
  | nil => exact .nil
  | cons k L ih => exact .cons (.int _) ih
def fRg (lo : Int) (hi : Int) : Option Rs := if -(2 ^ 62) ≤ lo ∧ lo < 2 ^ 62 ∧ -(2 ^ 62) ≤ hi ∧ hi < 2 ^ 62 ∧ (hi - lo).toNat ≤ 2 ^ 24 then some (.new (rngL lo (hi - lo).toNat)) else none
def fListR1 (f : Ev) : Ev := fun ρ => (f ρ).bind fun p => match p.1 with
  | .val (.int j) => (fRg 0 j).map fun r => (r, p.2)
  | _ => none
theorem s_listR1 (hc : X.calm = true) (gl : Gl X "list") (ml : X.mg "list" = none) (gr : Gl X "range") (mr : X.mg "range" = none) (h : SE X T a f) (na : starEach [a] X.env = (false, eval a X.env) :: starEach [] X.env := by rfl)
    (nb : starEach [.Call (.Name "range" p2) [a] [] q] X.env = (false, eval (.Call (.Name "range" p2) [a] [] q) X.env) :: starEach [] X.env := by rfl) : SE X T (.Call (.Name "list" p) [.Call (.Name "range" p2) [a] [] q] [] pos) (fListR1 f) := by
  refine PE.imp (pe_listRg hc gl ml (prg_1 gr mr h na) nb) fun σ H Q ⟨ρ, r, ρ', R, e, q⟩ => ?_
  obtain ⟨⟨r1, ρ1⟩, e1, e2⟩ := obind e
  refine ⟨ρ, r1, ρ1, R, e1, fun v H1 P => ?_⟩
  cases r1 with
  | slot i => simp at e2
  | new l => simp at e2
  | val d =>
    cases d <;> first | (simp at e2; done) | skip
    case int j =>
      obtain ⟨rr, e3, e4⟩ := omap e2
      cases e4
      obtain ⟨hok, rfl⟩ := ite_some e3
      have res : Tr X.K H1 v (.int j) := P.res
      cases res
      exact ⟨j, rfl, hok, fun p hp => q _ _ (P.op (nr_new hp (rgV_tr 0 j)))⟩
def cAug (i : Nat) (h : Int → Int → Int) (f : Ev) : Es := fun ρ => match ρ[i]? with
  | some (.val (.int a)) => (f ρ).bind fun q => match q.1 with
    | .val (.int b) => if wr q.2 i = true then some (.nx (q.2.set i (.val (.int (h a b))))) else none
    | _ => none
  | _ => none
end
end Dv
set_option Elab.async false
set_option linter.all false
set_option maxRecDepth 100000
set_option maxHeartbeats 4000000
namespace Dv
open PySem PySem.Spec PyProof.Rows L2 Gq
end Dv
set_option Elab.async false
set_option linter.all false
set_option maxRecDepth 100000
set_option maxHeartbeats 4000000
namespace Dv
open PySem PySem.Spec PyProof.Rows L2 Gq
theorem hu5 {A : Around} {k : Nat} (hr : Room k A) : A.units + 65 < cLine := by
  have := hr.un
  omega
def hInD (neg : Bool) (d : PD) : PD → Option Rs
  | .list l => if SeqAt.shaped d = true ∧ SeqAt.shaped (.list l) = true then some (.val (.bool (if neg then !(l.any fun z => PyData.eqv z d) else l.any fun z => PyData.eqv z d))) else none
  | _ => none
theorem b_notInD {K : PySem.W.Frag} : BinR K (rNotInD K) (hInD true) := by
  intro H x y d1 d2 r Q t1 t2 e q
  cases d2 <;> simp only [hInD] at e <;> first | (cases e; done) | skip
  case list l =>
    obtain ⟨⟨h1, h2⟩, rfl⟩ := ite_some e
    exact ⟨d1, l, t1.dp, t2.dp, h1, h2, q _ _ (nr_val (.bl _))⟩
end Dv
set_option Elab.async false
set_option linter.all false
set_option maxRecDepth 100000
set_option maxHeartbeats 4000000
namespace Lw
open PySem PySem.Spec PyProof.Rows L2 Gq Dv
end Lw
set_option Elab.async false
set_option linter.all false
set_option maxRecDepth 100000
set_option maxHeartbeats 4000000
namespace Dv
open PySem PySem.Spec PyProof.Rows L2 Gq
def ApR (K : PySem.W.Frag) (r : List V → Hp → VK → Prop) (h : List PD → Option Rs) : Prop :=
  ∀ (H : Hp) (vs : List V) (ds : List PD) (rs : Rs) (Q : VK), TrA K H vs ds → h ds = some rs → (∀ v H', NewRes K H rs v H' → Q v H') → r vs H Q
def fApp (h : List PD → Option Rs) (fs : Ea) : Ev := fun ρ => (fs ρ).bind fun p => (h p.1).map fun r => (r, p.2)
section
variable {X : Cx} {T : List Addr} {e : Expr} {es : List Expr} {f : Ev} {fs : Ea} {pos p : Pos} {x : Str} {id : String} {r : List V → Hp → VK → Prop} {h : List PD → Option Rs}
theorem app_core (hb : ApR X.K r h) {σ : Slots} {H : Hp} {Q : VK} (q : tS X.K T (fApp h fs) σ H Q) : tCB r (tA X.K T fs) σ H Q := by
  obtain ⟨ρ, rs, ρ', R, e, q⟩ := q
  obtain ⟨⟨ds, ρ1⟩, e1, e⟩ := obind e
  obtain ⟨r', hr, e⟩ := omap e
  cases e
  refine ⟨ρ, ds, _, R, e1, fun vs H1 P t => hb H1 vs ds rs Q t hr fun v H2 N => q v H2 ?_⟩
  have E := P.toE (r := .val .none) (v := .non) .non
  exact E.op N
theorem s_appB (hc : CallR X (.builtin id) r) (hb : ApR X.K r h) (hg : Gl X x) (hm : X.mg x = none) (hv : bootBuiltins x = some (.builtin id)) (ha : SA X T (e :: es) fs)
    (hn : x ≠ "__name__" := by decide) (hdb : (x == ("__debug__" : Str)) = false := by decide) (he : starEach (e :: es) X.env = (false, eval e X.env) :: starEach es X.env := by rfl) (hpl : (backTo pos (starEach es X.env)).any (·.1) = false := by rfl) : SE X T (.Call (.Name x p) (e :: es) [] pos) (fApp h fs) :=
  PE.imp (pe_callB hc hg hm hv ha hn hdb he hpl) fun σ H Q q => app_core hb q
theorem s_appM (hc : CallR X (.builtin id) r) (hb : ApR X.K r h) (hg : Gl X x) (hm : X.mg x = some (.builtin id)) (ha : SA X T (e :: es) fs)
    (hdb : (x == ("__debug__" : Str)) = false := by decide) (he : starEach (e :: es) X.env = (false, eval e X.env) :: starEach es X.env := by rfl) (hpl : (backTo pos (starEach es X.env)).any (·.1) = false := by rfl) : SE X T (.Call (.Name x p) (e :: es) [] pos) (fApp h fs) :=
  PE.imp (pe_callBfun hc hg hm ha hdb he hpl) fun σ H Q q => app_core hb q
def a2 (h : Int → Int → Option Int) : List PD → Option Rs
  | [.int a, .int b] => (h a b).map fun c => .val (.int c)
  | _ => none
def a1 (h : Int → Option Int) : List PD → Option Rs
  | [.int a] => (h a).map fun c => .val (.int c)
  | _ => none
theorem ap2 {K : PySem.W.Frag} {r : List V → Hp → VK → Prop} {h : Int → Int → Option Int} (w : ∀ a b c H Q, h a b = some c → Q (.int c) H → r [.int a, .int b] H Q) : ApR K r (a2 h) := by
  intro H vs ds rs Q t e q
  match ds, e with
  | [.int a, .int b], e =>
    obtain ⟨c, e1, e2⟩ := omap e
    cases e2
    obtain ⟨v, u, rfl, h1, h2⟩ := t.two
    rw [h1.int_eq, h2.int_eq]
    exact w a b c H Q e1 (q _ _ (nr_val (.int c)))
theorem ap1 {K : PySem.W.Frag} {r : List V → Hp → VK → Prop} {h : Int → Option Int} (w : ∀ a c H Q, h a = some c → Q (.int c) H → r [.int a] H Q) : ApR K r (a1 h) := by
  intro H vs ds rs Q t e q
  match ds, e with
  | [.int a], e =>
    obtain ⟨c, e1, e2⟩ := omap e
    cases e2
    obtain ⟨v, rfl, h1⟩ := t.one
    rw [h1.int_eq]
    exact w a c H Q e1 (q _ _ (nr_val (.int c)))
def iGcd (a b : Int) : Option Int := some ((Nat.gcd a.natAbs b.natAbs : Nat) : Int)
theorem a_gcd {K : PySem.W.Frag} : ApR K rGcd (a2 iGcd) := ap2 fun a b c H Q e q => ⟨a, b, rfl, by cases e; exact q⟩
def rI2 (h : Int → Int → Option Int) : List V → Hp → VK → Prop := fun vs H Q => ∃ a b c, vs = [.int a, .int b] ∧ h a b = some c ∧ Q (.int c) H
theorem a_i2 {K : PySem.W.Frag} {h : Int → Int → Option Int} : ApR K (rI2 h) (a2 h) := ap2 fun a b c H Q e q => ⟨a, b, c, rfl, e, q⟩
def fallN (n : Nat) : Nat → Nat
  | 0 => 1
  | k + 1 => fallN n k * (n - k)
def combN (n k : Nat) : Nat := if k ≤ n then fallN n (min k (n - k)) / fallN (min k (n - k)) (min k (n - k)) else 0
def permN (n k : Nat) : Nat := if k ≤ n then fallN n k else 0
theorem fall_eq (n : Nat) : ∀ k, k ≤ n → Builtin.Math.fallingProduct (n : Int) k = (fallN n k : Int)
  | 0, _ => PySem.W.mc_fp_zero _
  | k + 1, h => by
    rw [PySem.W.mc_fp_succ, fall_eq n k (by omega)]
    show _ = ((fallN n k * (n - k) : Nat) : Int)
    rw [Int.natCast_mul, Int.natCast_sub (by omega)]
def iComb (a b : Int) : Option Int := if 0 ≤ a ∧ 0 ≤ b ∧ a ≤ 1000 then some ((combN a.toNat b.toNat : Nat) : Int) else none
def iPerm (a b : Int) : Option Int := if 0 ≤ a ∧ 0 ≤ b ∧ a ≤ 1000 ∧ b ≤ 1000 then some ((permN a.toNat b.toNat : Nat) : Int) else none
theorem comb_eq {a b : Int} (ha : 0 ≤ a) (hb : 0 ≤ b) : PySem.W.mcComb a b = ((combN a.toNat b.toNat : Nat) : Int) := by
  obtain ⟨n, rfl⟩ := Int.eq_ofNat_of_zero_le ha
  obtain ⟨k, rfl⟩ := Int.eq_ofNat_of_zero_le hb
  unfold PySem.W.mcComb combN
  simp only [Int.toNat_natCast]
  by_cases h : k ≤ n
  · have h2 : ¬ ((k : Int) > (n : Int)) := by omega
    have e : min (k : Int) ((n : Int) - (k : Int)) = ((min k (n - k) : Nat) : Int) := by omega
    rw [if_neg h2, if_pos h, e, Int.toNat_natCast, fall_eq n _ (by omega), fall_eq (min k (n - k)) _ (Nat.le_refl _)]
    rfl
  · have h2 : (k : Int) > (n : Int) := by omega
    rw [if_pos h2, if_neg h]; rfl
theorem perm_eq {a b : Int} (ha : 0 ≤ a) (hb : 0 ≤ b) : PySem.W.mcPerm a b = ((permN a.toNat b.toNat : Nat) : Int) := by
  obtain ⟨n, rfl⟩ := Int.eq_ofNat_of_zero_le ha
  obtain ⟨k, rfl⟩ := Int.eq_ofNat_of_zero_le hb
  unfold PySem.W.mcPerm permN
  simp only [Int.toNat_natCast]
  by_cases h : k ≤ n
  · have h2 : ¬ ((k : Int) > (n : Int)) := by omega
    rw [if_neg h2, if_pos h, fall_eq n _ h]
  · have h2 : (k : Int) > (n : Int) := by omega
    rw [if_pos h2, if_neg h]; rfl
theorem cr_comb : CallR X (.builtin "math.comb") (rI2 iComb) := by
  intro pins s σ H vs us Q I r h
  obtain ⟨a, b, c, rfl, e, q⟩ := h
  obtain ⟨t, u, rfl⟩ := Vals.int2 r
  obtain ⟨⟨h0, h1, h2⟩, rfl⟩ := ite_some e
  refine PySem.W.mc_comb_v h0 h1 (by omega) (.inr (by omega)) (comb_eq h0 h1) ⟨.int _, H, I.tok _, ⟨_, rfl⟩, q⟩
theorem cr_perm : CallR X (.builtin "math.perm") (rI2 iPerm) := by
  intro pins s σ H vs us Q I r h
  obtain ⟨a, b, c, rfl, e, q⟩ := h
  obtain ⟨t, u, rfl⟩ := Vals.int2 r
  obtain ⟨⟨h0, h1, h2, h3⟩, rfl⟩ := ite_some e
  refine PySem.W.mc_perm_v h0 h1 (by omega) (by omega) (perm_eq h0 h1) ⟨.int _, H, I.tok _, ⟨_, rfl⟩, q⟩
def iAbs (a : Int) : Option Int := some (if a < 0 then -a else a)
theorem a_abs {K : PySem.W.Frag} : ApR K (fun xs H Q => ∃ i, xs = [.int i] ∧ Q (.int (if i < 0 then -i else i)) H) (a1 iAbs) := ap1 fun a c H Q e q => ⟨a, rfl, by cases e; exact q⟩
def cUnp (is : List Nat) (f : Ev) : Es := fun ρ => (f ρ).bind fun q => match q.1 with
  | .val d => (stTup is d q.2).map .nx
  | _ => none
theorem ss_unp {is : List Nat} {ts : List Expr} {pt : Pos} {kt} (hc : X.calm = true) (h : SE X T e f) (hg : PGs X ts (gNames is))
    (hn : (assignEach ts X.env).length = is.length := by rfl) (hst : (assignEach ts X.env).findIdx? (·.1) = none := by rfl)
    (hs : swapsWithSole [.Tuple ts kt pt] e pos.line X.env = pure false := by rfl) (hw : swappedStores [.Tuple ts kt pt] e X.env = pure none := by rfl)
    (h1 : (assignEach [.Tuple ts kt pt] X.env).map (·.2) = [assign (.Tuple ts kt pt) X.env] := by rfl) : SS X T (.Assign [.Tuple ts kt pt] e pos) (cUnp is f) := by
  refine PS.imp (ps_asg h (pg_tup hc hg hn hst) hs hw h1) fun D σ H h => ?_
  obtain ⟨ρ, w, R, e, h⟩ := h
  obtain ⟨⟨r1, ρ1⟩, e1, e2⟩ := obind e
  cases r1 with
  | slot i => simp at e2
  | new l => simp at e2
  | val d =>
    obtain ⟨ρ2, e3, e4⟩ := omap e2
    cases e4
    exact ⟨ρ, _, ρ1, R, e1, fun v H1 P => g_tup is v d ρ1 ρ2 σ H1 _ P.rep P.res e3 fun σ' P' hs hj => h _ H1 (P.toT.toS.trans P')⟩
def tTupRgF (te : L2.St → Hp → (Int → Int → Hp → Prop) → Prop) : TE := fun σ H Q => te σ H fun a b H1 => RgOk a b ∧ NewT H1 (rgV a b) Q
theorem pe_tupRgF {te : L2.St → Hp → (Int → Int → Hp → Prop) → Prop} (hc : X.calm = true) (hg : Gl X "tuple") (hm : X.mg "tuple" = none) (he : PRg X e te) (na : starEach [e] X.env = (false, eval e X.env) :: starEach [] X.env := by rfl) : PE X (.Call (.Name "tuple" p) [e] [] pos) (tTupRgF te) := by
  refine ⟨fun pins s σ H Q I h => ?_⟩
  refine Call_ (ld_blt I hg hm boot_tuple (PyProof.Rows.callWith_type1 (args_cons (thn (he pins s σ H _ I h) fun x s1 ⟨r, a, b, t, u, v, H1, ex, hr, I1, ok, q⟩ => args_nil ?_) na) na))
  subst ex
  obtain ⟨b1, b2, b3, b4, b5⟩ := ok
  refine call_tuple_range (n := (b - a).toNat) (I1.ok.hd hc) hr (small_one b1 b2 b3 b4) (rangeSize_nat a b) b5 fun h' tk acc hk hi => ?_
  have I2 : Inv X pins σ H1 { s1 with heap := h', toks := tk } := I1.kept hk
  have z := new_tup (t := tk) I2 (vals_rg hi) (by rw [rgV_length, sizeLine_eq]; omega) q
  rw [Array.toArray_toList] at z
  exact z
def fRgT (lo : Int) (hi : Int) : Option Rs := if -(2 ^ 62) ≤ lo ∧ lo < 2 ^ 62 ∧ -(2 ^ 62) ≤ hi ∧ hi < 2 ^ 62 ∧ (hi - lo).toNat ≤ 2 ^ 24 then some (.val (.tuple (rngL lo (hi - lo).toNat))) else none
def fTupR1 (f : Ev) : Ev := fun ρ => (f ρ).bind fun p => match p.1 with
  | .val (.int j) => (fRgT 0 j).map fun r => (r, p.2)
  | _ => none
variable {a : Expr} {p2 q : Pos}
theorem s_tupR1 (hc : X.calm = true) (gl : Gl X "tuple") (ml : X.mg "tuple" = none) (gr : Gl X "range") (mr : X.mg "range" = none) (h : SE X T a f) (na : starEach [a] X.env = (false, eval a X.env) :: starEach [] X.env := by rfl)
    (nb : starEach [.Call (.Name "range" p2) [a] [] q] X.env = (false, eval (.Call (.Name "range" p2) [a] [] q) X.env) :: starEach [] X.env := by rfl) : SE X T (.Call (.Name "tuple" p) [.Call (.Name "range" p2) [a] [] q] [] pos) (fTupR1 f) := by
  refine PE.imp (pe_tupRgF hc gl ml (prg_1 gr mr h na) nb) fun σ H Q ⟨ρ, r, ρ', R, e, q⟩ => ?_
  obtain ⟨⟨r1, ρ1⟩, e1, e2⟩ := obind e
  refine ⟨ρ, r1, ρ1, R, e1, fun v H1 P => ?_⟩
  cases r1 with
  | slot i => simp at e2
  | new l => simp at e2
  | val d =>
    cases d <;> first | (simp at e2; done) | skip
    case int j =>
      obtain ⟨rr, e3, e4⟩ := omap e2
      cases e4
      obtain ⟨hok, rfl⟩ := ite_some e3
      have res : Tr X.K H1 v (.int j) := P.res
      cases res
      exact ⟨j, rfl, hok, fun p o hp ho => q _ _ (P.op (nr_tup hp ho (rgV_tr 0 j)))⟩
end
end Dv
set_option Elab.async false
set_option linter.all false
set_option maxRecDepth 100000
set_option maxHeartbeats 4000000
namespace Dv
open PySem PySem.Spec PyProof.Rows L2 Gq
end Dv
set_option Elab.async false
set_option linter.all false
set_option maxRecDepth 100000
set_option maxHeartbeats 4000000
namespace Dv
open PySem PySem.Spec PyProof.Rows L2 Gq
def cmp2L (vs : List Nat) (st : PD → Rho → Option Rho) (g : Et) (inner : Rho → Option (List PD × Rho)) : List PD → Rho → Option (List PD × Rho)
  | [], ρ => some ([], wR ρ vs)
  | d :: ds, ρ => (st d (wR ρ vs)).bind fun ρ1 => (g ρ1).bind fun q => if q.1 = true then (inner q.2).bind fun r1 => (cmp2L vs st g inner ds r1.2).map fun r => (r1.1 ++ r.1, r.2)
    else cmp2L vs st g inner ds q.2
def inn (vs1 : List Nat) (fi1 : Ea) (st1 : PD → Rho → Option Rho) (g1 : Et) (fe : Ev) : Rho → Option (List PD × Rho) := fun ρ => (fi1 ρ).bind fun p => cmpL vs1 st1 g1 fe p.1 p.2
def fComp2 (vs vs1 : List Nat) (fi : Ea) (st : PD → Rho → Option Rho) (g : Et) (fi1 : Ea) (st1 : PD → Rho → Option Rho) (g1 : Et) (fe : Ev) : Ev := fun ρ => (fi ρ).bind fun q => (cmp2L vs st g (inn vs1 fi1 st1 g1 fe) q.1 q.2).bind fun r => if r.1.length ≤ sizeLine then some (.new r.1, unw q.2 r.2 vs) else none
theorem wipe_wipe {σ : Slots} {vs vs1 : List Nat} (hv : ∀ i ∈ vs1, i ∈ vs) : wipe (wipe σ vs1) vs = wipe σ vs := by
  apply List.ext_getElem?
  intro i
  by_cases hi : i ∈ vs
  · have no : ∀ (τ : Slots) (x : Option V), (wipe τ vs)[i]? = some x → x = none := fun τ x e => by
      cases x with
      | none => rfl
      | some y => exact absurd hi (wipe_some e).2
    cases h1 : (wipe (wipe σ vs1) vs)[i]? with
    | none =>
      rw [List.getElem?_eq_none_iff, wipe_length, wipe_length] at h1
      symm
      rw [List.getElem?_eq_none_iff, wipe_length]; omega
    | some x =>
      have := (List.getElem?_eq_some_iff.mp h1).1
      rw [wipe_length, wipe_length] at this
      have h2 : ∃ y, (wipe σ vs)[i]? = some y := ⟨_, List.getElem?_eq_getElem (by rw [wipe_length]; omega)⟩
      obtain ⟨y, h2⟩ := h2
      rw [h2, no _ _ h1, no _ _ h2]
  · rw [wipe_out hi, wipe_out hi, wipe_out fun z => hi (hv i z)]
section
variable {X : Cx} {T : List Addr} {fi fi1 : Ea} {vs vs1 is is1 : List Nat} {gt gt1 : TG} {st st1 : PD → Rho → Option Rho} {g g1 : Et} {fe : Ev}
theorem PostW.forget {K : PySem.W.Frag} {ρ ρx : Rho} {σ σx : Slots} {H Hx : Hp} {ws : List Nat} (W : PostW K T ρ σ H ρx σx Hx) (hρ : ∀ (i : Nat) (x : Slt), ρ[i]? = some x → x ≠ .no → i ∉ ws) : PostW K T ρ σ H (wR ρx ws) (wipe σx ws) Hx := by
  refine ⟨W.rep.wipe, W.fm, fun b z => W.sub b z.wipe, by rw [wipe_length]; exact W.len, fun j x e n => ?_, fun j l e => ?_⟩
  · obtain ⟨y, e', n'⟩ := W.mon j x e n
    exact ⟨y, by rw [wR_out (hρ j x e n)]; exact e', n'⟩
  · obtain ⟨l', e'⟩ := W.bor j l e
    exact ⟨l', by rw [wR_out (hρ j _ e fun z => by cases z)]; exact e'⟩
theorem comp2_core (hgo : GOk X.K T is gt st) (his : ∀ i ∈ is, i ∈ vs) (hgo1 : GOk X.K T is1 gt1 st1) (his1 : ∀ i ∈ is1, i ∈ vs1) (hvs : ∀ i ∈ vs1, i ∈ vs) {σ : Slots} {H : Hp} {Q : VK} (h : tS X.K T (fComp2 vs vs1 fi st g fi1 st1 g1 fe) σ H Q) :
    tLc2 (tI X.K T fi) gt (tT X.K T g) (tI X.K T fi1) gt1 (tT X.K T g1) (tS X.K T (fVal fe)) vs vs1 σ H Q := by
  obtain ⟨ρ, r, ρ', R, e, q⟩ := h
  obtain ⟨⟨ds, ρ1⟩, e1, e⟩ := obind e
  obtain ⟨⟨ys, ρe⟩, e2, e⟩ := obind e
  by_cases hlen : ys.length ≤ sizeLine
  · simp only [hlen, if_true, Option.some.injEq, Prod.mk.injEq] at e
    obtain ⟨rfl, rfl⟩ := e
    refine ⟨ρ, ds, ρ1, R, e1, fun J H1 P1 I D hD => ?_⟩
    have hle : ∀ b o, H1 b = some o → upd H1 D (.lst []) b = some o := fun b o e => by rw [upd_ne (ne_of_none e hD)]; exact e
    have P0 : PostW X.K T (wR ρ1 vs) (wipe σ vs) H1 (wR ρ1 vs) (wipe σ vs) (upd H1 D (.lst [])) := ((PostT.refl (P1.rep.wipe (vs := vs))).ext hle).toW
    have hno : ∀ (i : Nat) (x : Slt), (wR ρ1 vs)[i]? = some x → x ≠ .no → i ∉ vs := fun i x e n => (wR_some e n).2
    refine ⟨fun i m H2 => m = ds.length - i ∧ ∃ ρ2 acc accV rest, PostW X.K T (wR ρ1 vs) (wipe σ vs) H1 (wR ρ2 vs) (wipe σ vs) H2 ∧ H2 D = some (.lst accV) ∧ TrA X.K H2 accV acc ∧ cmp2L vs st g (inn vs1 fi1 st1 g1 fe) (ds.drop i) ρ2 = some (rest, ρe) ∧ acc ++ rest = ys,
      ⟨ds.length, rfl, ρ1, [], [], ys, P0, upd_same, .nil, e2, rfl⟩, ?_⟩
    rintro i m H2 ⟨rfl, ρ2, acc, accV, rest, P2, hD2, t2, e3, ey⟩
    have RP := P1.rep.wipe (vs := vs)
    have k12 : KeepH H1 H2 := RP.keepOf P2.fm
    have nD2 : ∀ {ρx : Rho} {σx : Slots}, (∀ b, OwA ρx σx b → OwA (wR ρ1 vs) (wipe σ vs) b) → ¬ OwA ρx σx D := fun {ρx σx} hs z => by
      obtain ⟨xs, hx⟩ := RP.ow (hs D z)
      rw [hD] at hx; cases hx
    by_cases hlt : i < ds.length
    · refine .inr ⟨I.go i H2 k12 hlt, fun H' => i < ds.length ∧ ∃ ρ2 acc accV rest, PostW X.K T (wR ρ1 vs) (wipe σ vs) H1 (wR ρ2 vs) (wipe σ vs) H' ∧ H' D = some (.lst accV) ∧ TrA X.K H' accV acc ∧ cmp2L vs st g (inn vs1 fi1 st1 g1 fe) (ds.drop (i + 1)) ρ2 = some (rest, ρe) ∧ acc ++ rest = ys,
        fun H' z => ⟨ds.length - (i + 1), by omega, rfl, z.2⟩, fun x H3 y => ?_⟩
      obtain ⟨ext, d, ed, t⟩ := I.yld i H2 x H3 k12 hlt y
      have ed' : ds[i] = d := by
        rw [List.getElem?_eq_getElem hlt] at ed
        exact Option.some.inj ed
      rw [drop_cons hlt, ed'] at e3
      unfold cmp2L at e3
      obtain ⟨ρ4, e4, e3⟩ := obind e3
      obtain ⟨⟨b, ρ5⟩, e5, e3⟩ := obind e3
      have P3 : PostW X.K T (wR ρ1 vs) (wipe σ vs) H1 (wR ρ2 vs) (wipe σ vs) H3 := (P2.toT.ext ext).toW
      refine hgo x d (wR ρ2 vs) ρ4 (wipe σ vs) H3 _ P3.rep t e4 fun σ4 P4 hs4 hσ4 => ?_
      have hw4 : wipe σ4 vs = wipe σ vs := wipe_eq P4.len hσ4 his
      refine ⟨hw4, ρ4, b, ρ5, P4.rep, e5, fun H5 P5 => ?_⟩
      have W5 := (P3.trans (P4.toW hs4)).trans P5.toW
      have back : ∀ {ρx : Rho} {σx : Slots} {Hx : Hp}, wipe σx vs = wipe σ vs → PostW X.K T (wR ρ1 vs) (wipe σ vs) H1 ρx σx Hx → PostW X.K T (wR ρ1 vs) (wipe σ vs) H1 (wR ρx vs) (wipe σ vs) Hx := fun {ρx σx Hx} hw W => by
        have := W.forget (ws := vs) hno
        rwa [hw] at this
      have dk : ∀ {Ha Hb : Hp} {ρx ρy : Rho} {σx : Slots} {aV : List V}, Ha D = some (.lst aV) → PostW X.K T (wR ρ1 vs) (wipe σ vs) H1 ρx σx Ha → Fm T ρx σx Ha Hb → Hb D = some (.lst aV) := fun {Ha Hb ρx ρy σx aV} hA W F => by
        exact F.keep D _ hA (fun _ z => by cases z) (nD2 W.sub)
      have hD3 : H3 D = some (.lst accV) := ext _ _ hD2
      have W4 := P3.trans (P4.toW hs4)
      have hD4 : H3 D = some (.lst accV) := hD3
      have D5 : H5 D = some (.lst accV) := dk (ρy := ρ5) (dk (ρy := ρ4) hD3 P3 P4.fm) W4 P5.fm
      have k25 : KeepH H2 H5 := ((keep_ext ext).trans (P3.rep.keepOf P4.fm)).trans (P4.rep.keepOf P5.fm)
      cases b with
      | false =>
        simp only [Bool.false_eq_true, if_false] at e3 ⊢
        exact ⟨hlt, ρ5, acc, accV, rest, back hw4 W5, D5, t2.keep k25, e3, ey⟩
      | true =>
        simp only [if_true] at e3 ⊢
        obtain ⟨⟨zs, ρ7⟩, e6, e3⟩ := obind e3
        obtain ⟨⟨rest2, ρ8⟩, e7, e8⟩ := omap e3
        cases e8
        obtain ⟨⟨es, ρ6⟩, e9, e10⟩ := obind e6
        refine ⟨ρ5, es, ρ6, P5.rep, e9, fun J1 H6 P6 I1 => ?_⟩
        have W6 := W5.trans P6.toW
        have D6 : H6 D = some (.lst accV) := dk (ρy := ρ6) D5 W5 P6.fm
        have t6 : TrA X.K H6 accV acc := (t2.keep k25).keep (P5.rep.keepOf P6.fm)
        have back1 : ∀ {ρx : Rho} {σx : Slots} {Hx : Hp}, wipe σx vs1 = wipe σ4 vs1 → PostW X.K T (wR ρ1 vs) (wipe σ vs) H1 ρx σx Hx → PostW X.K T (wR ρ1 vs) (wipe σ vs) H1 (wR ρx vs1) (wipe σ4 vs1) Hx := fun {ρx σx Hx} hw W => by
          have := W.forget (ws := vs1) fun i x e n z => hno i x e n (hvs i z)
          rwa [hw] at this
        refine ⟨fun j k Hj => k = es.length - j ∧ KeepH H6 Hj ∧ ∃ ρj aj aV rj, PostW X.K T (wR ρ1 vs) (wipe σ vs) H1 (wR ρj vs1) (wipe σ4 vs1) Hj ∧ Hj D = some (.lst aV) ∧ TrA X.K Hj aV aj ∧ cmpL vs1 st1 g1 fe (es.drop j) ρj = some (rj, ρ7) ∧ aj ++ rj = acc ++ zs,
          ⟨es.length, rfl, .refl, ρ6, acc, accV, zs, back1 rfl W6, D6, t6, e10, rfl⟩, ?_⟩
        rintro j k Hj ⟨rfl, kj, ρj, aj, aV, rj, Pj, hDj, tj, ej, eyj⟩
        by_cases hjt : j < es.length
        · refine .inr ⟨I1.go j Hj kj hjt, fun H' => j < es.length ∧ KeepH H6 H' ∧ ∃ ρj aj aV rj, PostW X.K T (wR ρ1 vs) (wipe σ vs) H1 (wR ρj vs1) (wipe σ4 vs1) H' ∧ H' D = some (.lst aV) ∧ TrA X.K H' aV aj ∧ cmpL vs1 st1 g1 fe (es.drop (j + 1)) ρj = some (rj, ρ7) ∧ aj ++ rj = acc ++ zs,
            fun H' z => ⟨es.length - (j + 1), by omega, rfl, z.2⟩, fun x1 H7 y1 => ?_⟩
          obtain ⟨ext1, d1, ed1, td1⟩ := I1.yld j Hj x1 H7 kj hjt y1
          have ed1' : es[j] = d1 := by
            rw [List.getElem?_eq_getElem hjt] at ed1
            exact Option.some.inj ed1
          rw [drop_cons hjt, ed1'] at ej
          unfold cmpL at ej
          obtain ⟨ρa, ea, ej⟩ := obind ej
          obtain ⟨⟨b1, ρb⟩, eb, ej⟩ := obind ej
          have P7 : PostW X.K T (wR ρ1 vs) (wipe σ vs) H1 (wR ρj vs1) (wipe σ4 vs1) H7 := ⟨Pj.rep.ext ext1, Pj.fm.trans (Fm.ext ext1) fun b z => .inl (Pj.sub b z), Pj.sub, Pj.len, Pj.mon, Pj.bor⟩
          refine hgo1 x1 d1 (wR ρj vs1) ρa (wipe σ4 vs1) H7 _ P7.rep td1 ea fun σa Pa hsa hσa => ?_
          have hwa : wipe σa vs1 = wipe σ4 vs1 := wipe_eq Pa.len hσa his1
          refine ⟨hwa, ρa, b1, ρb, Pa.rep, eb, fun H8 P8 => ?_⟩
          have Wa := P7.trans (Pa.toW hsa)
          have W8 := Wa.trans P8.toW
          have D7 : H7 D = some (.lst aV) := ext1 _ _ hDj
          have D8 : H8 D = some (.lst aV) := dk (ρy := ρb) (dk (ρy := ρa) D7 P7 Pa.fm) Wa P8.fm
          have k78 : KeepH Hj H8 := ((keep_ext ext1).trans (P7.rep.keepOf Pa.fm)).trans (Pa.rep.keepOf P8.fm)
          cases b1 with
          | false =>
            simp only [Bool.false_eq_true, if_false] at ej ⊢
            exact ⟨hjt, kj.trans k78, ρb, aj, aV, rj, back1 hwa W8, D8, tj.keep k78, ej, eyj⟩
          | true =>
            simp only [if_true] at ej ⊢
            obtain ⟨⟨r9, ρc⟩, ec, ej⟩ := obind ej
            refine ⟨ρb, r9, ρc, P8.rep, ec, fun w H9 P9 => ?_⟩
            cases r9 with
            | slot j => simp at ej
            | new l => simp at ej
            | val y9 =>
              obtain ⟨⟨rj2, ρd⟩, ed2, ed3⟩ := omap ej
              cases ed3
              have W9 := W8.trans P9.toT.toW
              have D9 : H9 D = some (.lst aV) := dk (ρy := ρc) D8 W8 P9.fm
              have k89 : KeepH H8 H9 := P8.rep.keepOf P9.fm
              have t9 : TrA X.K H9 aV aj := (tj.keep k78).keep k89
              have res : Tr X.K H9 w y9 := P9.res
              have hsz : aj.length < sizeLine := by
                have h1 := congrArg List.length eyj
                have h2 := congrArg List.length ey
                simp at h1 h2
                omega
              have P9b := back1 hwa W9
              have P10 : PostW X.K T (wR ρ1 vs) (wipe σ vs) H1 (wR ρc vs1) (wipe σ4 vs1) (upd H9 D (.lst (aV ++ [w]))) := by
                refine ⟨P9b.rep.upd D9 (nD2 P9b.sub), ⟨fun b o e h1 h2 => ?_, fun b e => ?_, fun Q x => (P9b.fm.tab Q x).lst D9⟩, P9b.sub, P9b.len, P9b.mon, P9b.bor⟩
                · rw [upd_ne (ne_of_none e hD)]
                  exact P9b.fm.keep b o e h1 h2
                · by_cases hb : b = D
                  · rw [hb, upd_same] at e; cases e
                  · rw [upd_ne hb] at e
                    exact P9b.fm.dom b e
              exact ⟨aV, D9, by rw [t9.len]; exact hsz, hjt, ((kj.trans k78).trans k89).trans (KeepH.lst D9), ρc, aj ++ [y9], aV ++ [w], rj2, P10, upd_same, ((t9.append (.cons res .nil)).keep (KeepH.lst D9)), ed2, by rw [List.append_assoc]; exact eyj⟩
        · rw [List.drop_eq_nil_of_le (by omega)] at ej
          simp only [cmpL, Option.some.injEq, Prod.mk.injEq] at ej
          obtain ⟨rfl, rfl⟩ := ej
          rw [List.append_nil] at eyj
          subst eyj
          refine .inl ⟨I1.stop j Hj kj (by omega), hlt, wR ρj vs1, acc ++ zs, aV, rest2, back (by rw [wipe_wipe hvs]; exact hw4) Pj, hDj, tj, e7, by rw [List.append_assoc]; exact ey⟩
    · rw [List.drop_eq_nil_of_le (by omega)] at e3
      simp only [cmp2L, Option.some.injEq, Prod.mk.injEq] at e3
      obtain ⟨rfl, rfl⟩ := e3
      rw [List.append_nil] at ey
      subst ey
      have U := unw_post P1.rep P2.toT (fun j hj x e => wR_in hj e)
      have F := P1.trans U
      refine .inl ⟨I.stop i H2 k12 (by omega), q _ H2 (F.toE (r := .new acc) ⟨D, accV, rfl, hD2, t2, fun z => ?_, P1.dom hD⟩)⟩
      obtain ⟨xs, hx⟩ := P1.rep.ow (U.sub D z)
      rw [hD] at hx; cases hx
  · simp only [hlen, if_false] at e
    cases e
theorem s_comp2 {elt tg iter tg1 iter1 : Expr} {ifs ifs1 : List Expr} {scope : Scope} {own : List (Str × Nat)} {pos : Pos} (hc : X.calm = true) (hN : X.N.Nodup) (hi : SI X T tg iter fi) (ok : BlkOk X.N X.env.scope scope own) (hgo : GOk X.K T is gt st) (his : ∀ i ∈ is, i ∈ own.map (·.2))
    (hgo1 : GOk X.K T is1 gt1 st1) (his1 : ∀ i ∈ is1, i ∈ vs1) (hv : ∀ i ∈ vs1, i ∈ own.map (·.2))
    (hg : ∀ (s : Shared) (H : Hp) (C : Addr) (cl : List (Str × Addr)) (fp : List Addr), PG (X.blk s H scope (compEnvC scope cl C X.env) fp) tg gt) (ht : ∀ (s : Shared) (H : Hp) (C : Addr) (cl : List (Str × Addr)) (fp : List Addr), STs (X.blk s H scope (compEnvC scope cl C X.env) fp) T ifs g)
    (hi1 : ∀ (s : Shared) (H : Hp) (C : Addr) (cl : List (Str × Addr)) (fp : List Addr), SI (X.blk s H scope (compEnvC scope cl C X.env) fp) T tg1 iter1 fi1)
    (hg1 : ∀ (s : Shared) (H : Hp) (C : Addr) (cl : List (Str × Addr)) (fp : List Addr), PG (X.blk s H scope (compEnvC scope cl C X.env) fp) tg1 gt1) (ht1 : ∀ (s : Shared) (H : Hp) (C : Addr) (cl : List (Str × Addr)) (fp : List Addr), STs (X.blk s H scope (compEnvC scope cl C X.env) fp) T ifs1 g1)
    (he : ∀ (s : Shared) (H : Hp) (C : Addr) (cl : List (Str × Addr)) (fp : List Addr), SE (X.blk s H scope (compEnvC scope cl C X.env) fp) T elt fe) (hs : ∀ x, foldedSetIterable iter X.env x = pure x := by intro _; rfl) (hs1 : ∀ env x, foldedSetIterable iter1 env x = pure x := by intro _ _; rfl) :
    SE X T (.ListComp elt [⟨tg, iter, ifs, 0⟩, ⟨tg1, iter1, ifs1, 0⟩] scope pos) (fComp2 (own.map (·.2)) vs1 fi st g fi1 st1 g1 fe) :=
  PE.imp (pe_lc2 (tt := tT X.K T g) (tt1 := tT X.K T g1) (wi1 := tI X.K T fi1) (te := tS X.K T (fVal fe)) hc hN hi ok hv hg ht hi1 hg1 ht1 (fun s H C cl fp => s_val (he s H C cl fp)) hs hs1) fun σ H Q h => comp2_core hgo his hgo1 his1 hv h
end
end Dv
set_option Elab.async false
set_option linter.all false
set_option maxRecDepth 100000
set_option maxHeartbeats 4000000
namespace Dv
open PySem PySem.Spec PyProof.Rows L2 Gq
def tupI (ns : List Int) : PD := .tuple (ns.map .int)
def ltI : List Int → List Int → Bool
  | [], [] => false
  | [], _ :: _ => true
  | _ :: _, [] => false
  | x :: xs, y :: ys => if x = y then ltI xs ys else decide (x < y)
section
open PySem.W
theorem lt_rows : ∀ xs ys : List Int, PyProof.Rows.lexLt itemOrd (keyToksAll (xs.map .int)) (keyToksAll (ys.map .int)) = ltI xs ys
  | [], [] => lex_irrefl _
  | [], y :: ys => by
    show PyProof.Rows.lexLt itemOrd (keyToksAll []) (keyToksAll (.int y :: ys.map .int)) = true
    rw [toks_all_cons]
    simp only [keyToksAll]
    rw [lex_diff (O := itemOrd) (by intro e; exact absurd (Sum.inl.inj e) (by decide))]
    rfl
  | x :: xs, [] => by
    show PyProof.Rows.lexLt itemOrd (keyToksAll (.int x :: xs.map .int)) (keyToksAll []) = false
    rw [toks_all_cons]
    simp only [keyToksAll]
    rw [lex_diff (O := itemOrd) (by intro e; exact absurd (Sum.inl.inj e) (by decide))]
    rfl
  | x :: xs, y :: ys => by
    show PyProof.Rows.lexLt itemOrd (keyToksAll (.int x :: xs.map .int)) (keyToksAll (.int y :: ys.map .int)) = _
    rw [dataLt_cons (x := .int x) (y := .int y) (by simp [alike]), lt_rows xs ys, dataLt_int]
    have e : PyData.eqv (.int x) (.int y) = decide (x = y) := by
      by_cases h : x = y <;> simp [PyData.eqv, h]
    rw [e]
    show _ = if x = y then ltI xs ys else decide (x < y)
    by_cases h : x = y
    · rw [if_pos (by simpa using h), if_pos h]
    · rw [if_neg (by simpa using h), if_neg h]
theorem dl_tupI (xs ys : List Int) : dataLt (tupI xs) (tupI ys) = ltI xs ys := by
  unfold tupI
  rw [dataLt_tuple, lt_rows]
end
theorem ltI_tot : ∀ xs ys : List Int, ltI xs ys = false → ltI ys xs = false → xs = ys
  | [], [], _, _ => rfl
  | [], y :: ys, h, _ => by cases h
  | x :: xs, [], _, h => by cases h
  | x :: xs, y :: ys, h, k => by
    replace h : (if x = y then ltI xs ys else decide (x < y)) = false := h
    replace k : (if y = x then ltI ys xs else decide (y < x)) = false := k
    by_cases e : x = y
    · subst e
      rw [if_pos rfl] at h k
      rw [ltI_tot xs ys h k]
    · rw [if_neg e] at h
      rw [if_neg (Ne.symm e)] at k
      have h := of_decide_eq_false h
      have k := of_decide_eq_false k
      omega
theorem ltI_asym : ∀ xs ys : List Int, ltI xs ys = true → ltI ys xs = false
  | [], [], h => by cases h
  | [], y :: ys, _ => rfl
  | x :: xs, [], h => by cases h
  | x :: xs, y :: ys, h => by
    replace h : (if x = y then ltI xs ys else decide (x < y)) = true := h
    show (if y = x then ltI ys xs else decide (y < x)) = false
    by_cases e : x = y
    · subst e
      rw [if_pos rfl] at h ⊢
      exact ltI_asym xs ys h
    · rw [if_neg e] at h
      rw [if_neg (Ne.symm e)]
      have h := of_decide_eq_true h
      exact decide_eq_false (by omega)
theorem ltI_tr : ∀ xs ys zs : List Int, ltI ys xs = false → ltI zs ys = false → ltI zs xs = false
  | [], ys, [], _, _ => rfl
  | [], ys, z :: zs, _, _ => rfl
  | x :: xs, [], zs, h, _ => by cases h
  | x :: xs, y :: ys, [], _, h => by cases h
  | x :: xs, y :: ys, z :: zs, h, k => by
    replace h : (if y = x then ltI ys xs else decide (y < x)) = false := h
    replace k : (if z = y then ltI zs ys else decide (z < y)) = false := k
    show (if z = x then ltI zs xs else decide (z < x)) = false
    by_cases e : y = x
    · subst e
      rw [if_pos rfl] at h
      by_cases e2 : z = y
      · subst e2
        rw [if_pos rfl] at k ⊢
        exact ltI_tr xs ys zs h k
      · rw [if_neg e2] at k ⊢
        exact k
    · rw [if_neg e] at h
      have h := of_decide_eq_false h
      by_cases e2 : z = y
      · subst e2
        rw [if_neg e]
        exact decide_eq_false (by omega)
      · rw [if_neg e2] at k
        have k := of_decide_eq_false k
        have n : ¬ z = x := by omega
        rw [if_neg n]
        exact decide_eq_false (by omega)
def insL (x : List Int) : List (List Int) → List (List Int)
  | [] => [x]
  | y :: ys => match ltI y x with
    | true => y :: insL x ys
    | false => x :: y :: ys
def isortL : List (List Int) → List (List Int)
  | [] => []
  | x :: xs => insL x (isortL xs)
theorem insL_perm (x : List Int) : ∀ ys, (insL x ys).Perm (x :: ys)
  | [] => .refl _
  | y :: ys => by
    unfold insL
    split
    · exact ((insL_perm x ys).cons y).trans (List.Perm.swap x y ys)
    · exact .refl _
theorem isortL_perm : ∀ xs, (isortL xs).Perm xs
  | [] => .refl _
  | x :: xs => (insL_perm x (isortL xs)).trans ((isortL_perm xs).cons x)
abbrev LeL (a b : List Int) : Prop := ltI b a = false
theorem insL_sorted (x : List Int) : ∀ {ys : List (List Int)}, ys.Pairwise LeL → (insL x ys).Pairwise LeL
  | [], _ => by simp [insL]
  | y :: ys, h => by
    unfold insL
    rw [List.pairwise_cons] at h
    split
    · rename_i hx
      refine List.pairwise_cons.mpr ⟨fun z hz => ?_, insL_sorted x h.2⟩
      rcases List.mem_cons.mp ((insL_perm x ys).mem_iff.mp hz) with rfl | hz
      · exact ltI_asym _ _ hx
      · exact h.1 z hz
    · rename_i hx
      refine List.pairwise_cons.mpr ⟨fun z hz => ?_, List.pairwise_cons.mpr h⟩
      rcases List.mem_cons.mp hz with rfl | hz
      · exact hx
      · exact ltI_tr _ _ _ hx (h.1 z hz)
theorem isortL_sorted : ∀ xs, (isortL xs).Pairwise LeL
  | [] => .nil
  | x :: xs => insL_sorted x (isortL_sorted xs)
theorem dle_I : PySem.W.dataLe false tupI = fun a b => !ltI b a := by
  rw [PySem.W.dataLe_eq]
  funext a b
  show (!PySem.W.dataLt (tupI b) (tupI a)) = _
  rw [dl_tupI]
theorem merge_I (bs : List (List Int)) : bs.mergeSort (PySem.W.dataLe false tupI) = isortL bs := by
  rw [dle_I]
  have hs := List.pairwise_mergeSort (le := fun a b => !ltI b a) (fun a b c h1 h2 => by
    have h1' : ltI b a = false := by simpa using h1
    have h2' : ltI c b = false := by simpa using h2
    simpa using ltI_tr a b c h1' h2') (fun a b => by
    cases e : ltI b a with
    | false => rfl
    | true => simp [ltI_asym _ _ e]) bs
  refine List.Perm.eq_of_pairwise (le := LeL) (fun a b _ _ h1 h2 => ltI_tot _ _ h2 h1) (hs.imp fun {a b} h => by simpa using h) (isortL_sorted bs) ((List.mergeSort_perm _ _).trans (isortL_perm bs).symm)
section
variable {X : Cx} {K : PySem.W.Frag}
def rSortD (K : PySem.W.Frag) : List V → Hp → VK → Prop := fun vs H Q => ∃ (a : Addr) (xs : List V) (bs : List (List Int)), vs = [V.ref a] ∧ SqL K H a xs ∧ TrA K H xs (bs.map tupI) ∧ (∀ b ∈ bs, b ≠ []) ∧
  ∀ (ys : List V) (p : Addr), TrA K H ys ((isortL bs).map tupI) → H p = none → Q (.ref p) (upd H p (.lst ys))
theorem each_of {pins : List (Addr × Obj)} {σ : L2.St} {H : Hp} {s : Shared} (I : Inv X pins σ H s) : ∀ {vs : List V} {us : List Value} {bs : List (List Int)}, Vals vs us → TrA X.K H vs (bs.map tupI) →
    PySem.W.EachIs (fun u b => ∃ y : V, RelV y u ∧ Tr X.K H y (tupI b)) us bs ∧ PySem.W.EachIs (fun u b => ∃ as, Reads s.heap u (tupI b) as) us bs
  | _, _, [], r, t => by
    cases t
    cases r
    exact ⟨.nil, .nil⟩
  | _, _, b :: bs, r, t => by
    have t' : TrA X.K H _ (tupI b :: bs.map tupI) := t
    cases t' with
    | cons h t =>
      cases r with
      | cons r1 r =>
        obtain ⟨e1, e2⟩ := each_of I r t
        exact ⟨.cons ⟨_, r1, h⟩ e1, .cons (Dp.reads I _ _ _ h.dp r1) e2⟩
theorem each_back {H : Hp} : ∀ {us : List Value} {bs : List (List Int)}, PySem.W.EachIs (fun u b => ∃ y : V, RelV y u ∧ Tr K H y (tupI b)) us bs → ∃ ys, Vals ys us ∧ TrA K H ys (bs.map tupI)
  | _, _, .nil => ⟨[], .nil, .nil⟩
  | _, _, .cons ⟨y, r, t⟩ e => by
    obtain ⟨ys, h1, h2⟩ := each_back e
    exact ⟨y :: ys, .cons r h1, .cons t h2⟩
theorem call_sortD (hu : X.A.units + 65 < cLine) : CallR X (.builtin "sorted") (rSortD X.K) := by
  intro pins s σ H vs us Q I r h
  obtain ⟨a, xs, bs, rfl, hs, t, hne, q⟩ := h
  obtain ⟨its, rv, hl, hz⟩ := I.list hs
  rw [Vals.ref1 r]
  obtain ⟨e1, e2⟩ := each_of I rv t
  have hlen : xs.length = bs.length := by rw [t.len, List.length_map]
  refine PySem.W.sorted_data hl.isList e1 e2 (PySem.W.AllAlike.of fun b b' => ?_) (.inl fun d hd => ?_) (by rw [← hlen]; exact hz) (fun b hb => ?_) fun out ho eo => ?_
  · show PySem.W.alike (.tuple (b.map .int)) (.tuple (b'.map .int)) = true
    simp only [PySem.W.alike]
    exact PySem.W.alike_ints b b'
  · obtain ⟨b, hb, rfl⟩ := List.mem_map.mp hd
    cases b with
    | nil => exact absurd rfl (hne _ hb)
    | cons x r => exact ⟨_, _, rfl⟩
  · have : (tupI b).depth ≤ 1 := by
      unfold tupI
      simp only [PyData.depth]
      rw [PySem.W.depth_ints]
      omega
    omega
  · rw [merge_I] at eo
    obtain ⟨ys, h1, h2⟩ := each_back eo
    obtain ⟨ep, he'⟩ := PyProof.Rows.sortedAll_at s.heap its out.toArray
    have hl2 : ys.length ≤ sizeLine := by
      rw [h2.len, List.length_map, (isortL_perm bs).length_eq, ← hlen]
      exact hz
    exact ⟨.ref _, upd H (s.heap.objs.size + 1) (.lst ys), I.laid (t' := s.toks) (fun _ _ => PyProof.Rows.sortedAll_old) (Nat.le_succ _) ⟨hl2, out, ep, h1, he'⟩, rfl, q _ _ h2 (I.hok.fresh (Nat.le_succ _))⟩
def rowsOf : List PD → Option (List (List Int))
  | [] => some []
  | .tuple (d :: l) :: ds => (intsOf (d :: l)).bind fun ns => (rowsOf ds).map fun bs => ns :: bs
  | _ :: _ => none
theorem rowsOf_map : ∀ {ds : List PD} {bs : List (List Int)}, rowsOf ds = some bs → ds = bs.map tupI ∧ ∀ b ∈ bs, b ≠ []
  | [], _, e => by cases e; exact ⟨rfl, by simp⟩
  | d :: ds, bs, e => by
    cases d <;> first | (cases e; done) | skip
    case tuple l =>
      cases l with
      | nil => cases e
      | cons d l =>
        obtain ⟨ns, h1, e⟩ := obind e
        obtain ⟨cs, h2, rfl⟩ := omap e
        obtain ⟨h3, h4⟩ := rowsOf_map h2
        have h5 := intsOf_map h1
        refine ⟨?_, fun b hb => ?_⟩
        · show _ :: _ = tupI ns :: cs.map tupI
          rw [h3]
          unfold tupI
          rw [h5]
        · rcases List.mem_cons.mp hb with rfl | hb
          · intro z
            subst z
            cases h5
          · exact h4 b hb
def hSort2 : PD → Option Rs
  | .list (.tuple a :: l) => (rowsOf (.tuple a :: l)).map fun bs => .new ((isortL bs).map tupI)
  | d => hSort d
theorem call_sort2 (hu : X.A.units + 65 < cLine) : CallR X (.builtin "sorted") (fun vs H Q => (rSortedI X.K vs H Q ∨ rSortT X.K vs H Q) ∨ rSortD X.K vs H Q) := CallR.or call_sort (call_sortD hu)
theorem u_sort2 : UnR1 K (fun vs H Q => (rSortedI K vs H Q ∨ rSortT K vs H Q) ∨ rSortD K vs H Q) hSort2 := by
  intro H x d rs Q t e q
  unfold hSort2 at e
  split at e
  · rename_i a l
    obtain ⟨bs, e1, e2⟩ := omap e
    cases e2
    obtain ⟨h1, h2⟩ := rowsOf_map e1
    obtain ⟨p, xs, rfl, h, t⟩ := t.seq
    refine .inr ⟨p, xs, bs, rfl, h, by rw [← h1]; exact t, h2, fun ys p t2 hp => ?_⟩
    exact q _ _ (nr_new hp t2)
  · exact .inl (u_sort H x d rs Q t e q)
end
end Dv
set_option Elab.async false
set_option linter.all false
set_option maxRecDepth 100000
set_option maxHeartbeats 4000000
namespace PySem.W
open PySem PySem.Calls PyProof.Rows PySem.SeqAt
section
variable {A : Around} {s : Shared}
theorem call_tuple_ltZ {prog : Program} {w : World} {E : Value → Shared → Prop} {Q : Value → Shared → Prop} {l b : Addr} {items items2 : Array Value} {e r : Nat → Bool} (hl : s.heap.IsTuple l items) (hb : s.heap.IsTuple b items2)
    (he : ∀ j (h1 : j < items.size) (h2 : j < items2.size), EqAt A.in1 s items[j] items2[j] (e j)) (hr : ∀ j (h1 : j < items.size) (h2 : j < items2.size), e j = false → RcLt A.in1 s items[j] items2[j] (r j))
    (h : Q (.bool (firstLt e r (decide (items.size < items2.size)) (List.range (min items.size items2.size)))) s) : wpAny (model prog w) A (call (.builtin "tuple.__lt__") [.ref l, .ref b]) Q E s := by
  obtain ⟨⟨cls, dd, data, sl⟩, ho, hc, n, hd⟩ := id hl
  obtain ⟨⟨cls2, dd2, data2, sl2⟩, ho2, hc2, n2, hd2⟩ := id hb
  simp only at hc hd hc2 hd2
  subst hc hd hc2 hd2
  exact call_meets F.slot_tuple_lt ⟨_, ho, rfl⟩ F.entry_tuple_lt (F.args_tuple_lt_2 _ _) (tuple_ltAt l b items items2 n n2 dd dd2 sl sl2 e r) ⟨ho, ho2, he, hr, h⟩
end
section
variable {prog : Program} {w : World} {A : Around} {E : Value → Shared → Prop} {s : Shared}
theorem oneLt_tupZ {xs ys : List PyData} {a b : Value} {as bs : List Addr} {Q : Bool → Shared → Prop} (ra : Reads s.heap a (.tuple xs) as) (rb : Reads s.heap b (.tuple ys) bs) (hal : alikeAll xs ys = true)
    (hu : A.units + min (PyData.depth (.tuple xs)) (PyData.depth (.tuple ys)) < cLine) (hq : Q (dataLt (.tuple xs) (.tuple ys)) s) : wpAny (model prog w) A (oneLt' true a b) Q E s := by
  cases ra with
  | @tuple l o vs n _ as₁ h1 h2 h3 h4 =>
    cases rb with
    | @tuple l' o' vs' n' _ bs₁ k1 k2 k3 k4 =>
      have n1 : vs.size = xs.length := by simpa using ReadsAll.length _ _ _ h4
      have n2 : vs'.size = ys.length := by simpa using ReadsAll.length _ _ _ k4
      rw [dataLt_tuple, ← firstLt_toks xs ys hal, ← n1, ← n2] at hq
      rw [oneLt'_eq]
      simp only [if_true]
      refine wpAny_bind (wpAny_cRoomFor (room_here hu) ?_)
      refine wpAny_bind (wpAny_callSpecialIfBound?_slot (T := "tuple") ⟨_, h1, h2⟩ F.slot_tuple_lt (call_tuple_ltZ (e := pairEq xs ys) (r := fun j => dataLt (xs.getD j .none) (ys.getD j .none)) ⟨_, h1, h2, _, h3⟩ ⟨_, k1, k2, _, k3⟩ (fun j j1 j2 => ?_) (fun j j1 j2 hj => ?_) ?_))
      · have := eqAt_alikeAll xs ys A.in1 s vs.toList vs'.toList _ _ h4 k4 hal (room_in hu) j (by simpa using j1) (by simpa using j2)
        simpa using this
      · have := rcLt_alikeAll xs ys A.in1 s vs.toList vs'.toList _ _ h4 k4 hal (room_in hu) j (by simpa using j1) (by simpa using j2) hj
        simpa using this
      · exact wpAny_truthy_bool hq
theorem firsts_Z : ∀ (vs : List Value) {Q : List (Option Value) → Shared → Prop}, (∀ v ∈ vs, ∃ d as, Reads s.heap v (.tuple d) as) → (∀ os, Q os s) → wpAny (model prog w) A (vs.mapM firstOfTuple') Q E s
  | [], _, _, h => by rw [List.mapM_nil]; exact wpAny_pure (h _)
  | v :: vs, Q, t, h => by
    obtain ⟨d, as, r⟩ := t v List.mem_cons_self
    cases r with
    | @tuple a o xs n _ _ ho hc hd hr =>
      rw [List.mapM_cons]
      refine wpAny_bind ?_
      rw [kas_first_eq]
      refine wpAny_bind (Looks.here (show Looks (model prog w) s.heap (typeOf (.ref a)) o.cls from (Looks.ld ho).andThen .now) ?_)
      rw [hc, if_neg (by first | decide | simp)]
      refine wpAny_bind (listItems_at ho hd (wpAny_pure ?_))
      exact wpAny_bind (firsts_Z vs (Q := fun bs s' => wpAny (model prog w) A (pure (_ :: bs)) Q E s') (fun v hv => t v (List.mem_cons_of_mem _ hv)) (fun os => wpAny_pure (h _)))
theorem kind_Z {v₁ : Value} {vs : List Value} {Q : SortKind → Shared → Prop} {as : List Addr} (h0 : Reads s.heap v₁ (.tuple []) as) (ht : ∀ v ∈ vs, ∃ d as, Reads s.heap v (.tuple d) as) (h : Q oneType' s) : wpAny (model prog w) A (keyKind' (v₁ :: vs).toArray) Q E s := by
  have hT : ∀ v ∈ v₁ :: vs, Looks (model prog w) s.heap (typeOf v) (Value.type "tuple") := fun v hv => by
    rcases List.mem_cons.mp hv with rfl | hv
    · exact looks_reads h0
    · obtain ⟨d, as, r⟩ := ht v hv
      exact looks_reads r
  rw [keyKind'_eq, List.mapM_toArray, map_eq_pure_bind]
  refine wpAny_bind (wpAny_bind ?_)
  rw [List.mapM_cons]
  refine wpAny_bind ?_
  rw [kas_first_eq]
  cases h0 with
  | @tuple a o xs n _ _ ho hc hd hr =>
    refine wpAny_bind (Looks.here (show Looks (model prog w) s.heap (typeOf (.ref a)) o.cls from (Looks.ld ho).andThen .now) ?_)
    rw [hc, if_neg (by first | decide | simp)]
    refine wpAny_bind (listItems_at ho hd (wpAny_pure ?_))
    have hx : xs[0]? = none := by
      have : xs.toList = [] := by
        cases q : xs.toList with
        | nil => rfl
        | cons f fr =>
          rw [q] at hr
          cases hr
      have hz : xs.size = 0 := by rw [← Array.length_toList, this]; rfl
      exact Array.getElem?_eq_none (by omega)
    rw [hx]
    refine wpAny_bind (firsts_Z vs ht fun os => wpAny_pure (wpAny_pure ?_))
    rw [if_neg (by simp), if_neg (by simp)]
    rw [oneTypeOnly'_eq, List.mapM_toArray, map_eq_pure_bind]
    refine wpAny_bind (wpAny_bind (wpAny_bind (kas_mapM (r := Value.type "tuple") _ (fun v hv Q' hq => (hT v hv).here hq) (wpAny_pure ?_))))
    have hall : ((List.map (fun _ => Value.type "tuple") (Value.ref a :: vs)).toArray.all fun x => x == Value.type "tuple") = true := by
      simp only [List.all_toArray, List.all_map, List.all_eq_true]
      intro _ _
      exact beq_self_eq_true _
    have h0 : (List.map (fun _ => Value.type "tuple") (Value.ref a :: vs)).toArray[0]? = some (Value.type "tuple") := by simp
    rw [h0]
    simp only [hall, if_true]
    exact wpAny_pure (wpAny_pure h)
theorem SortsAt.dataZ {vs : List Value} {ds : List PyData} (e : EachIs (fun v d => ∃ as, Reads s.heap v d as) vs (.tuple [] :: ds)) (hal : AllAlike (.tuple [] :: ds)) (ht : ∀ d ∈ ds, ∃ xs, d = .tuple xs) (hu : ∀ d, d ∈ PyData.tuple [] :: ds → A.units + d.depth < cLine) : SortsAt prog w A s (dataKind s.heap (.tuple [] :: ds)) vs := by
  have room : ∀ {d d' : PyData}, d ∈ PyData.tuple [] :: ds → A.units + min d.depth d'.depth < cLine := fun {d d'} hd => Nat.lt_of_le_of_lt (Nat.add_le_add_left (Nat.min_le_left _ _) _) (hu d hd)
  have htt : ∀ d ∈ PyData.tuple [] :: ds, ∃ xs, d = .tuple xs := fun d hd => by
    rcases List.mem_cons.mp hd with rfl | hd
    · exact ⟨_, rfl⟩
    · exact ht d hd
  refine ⟨fun v hv => ?_, oneType', ?_, fun h2 E Q hq => ?_⟩
  · obtain ⟨d, hd, as, r⟩ := e.left v hv
    exact ⟨_, dataKind_some hal hd r⟩
  · intro E x y a b Q ha hb hq
    obtain ⟨d, as, hd, ra, rfl⟩ := dataKind_inv ha
    obtain ⟨d', as', hd', rb, rfl⟩ := dataKind_inv hb
    have hdd := hal d hd d' hd'
    have hroom := room (d' := d') hd
    obtain ⟨xs, rfl⟩ := htt d hd
    obtain ⟨ys, rfl⟩ := htt d' hd'
    rw [keyLt'_oneType]
    exact oneLt_tupZ ra rb (by simpa [alike] using hdd) hroom hq
  · cases e with
    | @cons v _ vs _ h t =>
      obtain ⟨as, r⟩ := h
      refine kind_Z r (fun v hv => ?_) hq
      obtain ⟨d, hd, as, r⟩ := t.left v hv
      obtain ⟨xs, rfl⟩ := ht d hd
      exact ⟨_, _, r⟩
theorem sorted_dataZ {β : Type} {R : Value → β → Prop} {enc : β → PyData} {vs : List Value} {b0 : β} {bs : List β} {l : Addr} {Q : Value → Shared → Prop} (hl : s.heap.IsList l vs.toArray) (e : EachIs R vs (b0 :: bs)) (er : EachIs (fun v b => ∃ as, Reads s.heap v (enc b) as) vs (b0 :: bs)) (hal : AllAlike ((b0 :: bs).map enc)) (h0 : enc b0 = .tuple []) (ht : ∀ b ∈ bs, ∃ xs, enc b = .tuple xs) (hL : (b0 :: bs).length ≤ sizeLine)
    (hu : ∀ b, b ∈ b0 :: bs → A.units + 2 + (enc b).depth < cLine) (h : ∀ out, out.length = (b0 :: bs).length → EachIs R out ((b0 :: bs).mergeSort (dataLe false enc)) → Q (.ref (s.heap.objs.size + 1)) { s with heap := sortedAll s.heap vs (List.toArray out) }) :
    wpAny (model prog w) A (call (.builtin "sorted") [.ref l]) Q E s := by
  have er' : EachIs (fun v b => ∃ as, Reads (sortingHeap (copyHeap s.heap vs) (s.heap.objs.size + 1) vs) v (enc b) as) vs (b0 :: bs) := er.mono fun _ _ ⟨as, r⟩ => ⟨as, PyProof.Rows.Reads.keeps (fun _ _ => sorting_copy_old) r⟩
  have em : (b0 :: bs).map enc = .tuple [] :: bs.map enc := by rw [List.map_cons, h0]
  have S := SortsAt.dataZ (prog := prog) (w := w) (A := A.in1.in1) (s := { s with heap := sortingHeap (copyHeap s.heap vs) (s.heap.objs.size + 1) vs }) (ds := bs.map enc) (by rw [← em]; exact each_map (R := fun v d => ∃ as, Reads (sortingHeap (copyHeap s.heap vs) (s.heap.objs.size + 1) vs) v d as) enc er') (by rw [← em]; exact hal) (fun d hd => by obtain ⟨b, hb, rfl⟩ := List.mem_map.mp hd; exact ht b hb) (by rw [← em]; exact bound_map hu)
  rw [← em] at S
  exact sorted_vals hl S (by rw [e.length]; exact hL)
    (h _ (by rw [sortVals_length false rfl]; exact e.length) (sortVals_data false e er' hal))
end
end PySem.W
namespace Dv
open PySem PySem.Spec PyProof.Rows L2 Gq
section
variable {X : Cx} {K : PySem.W.Frag}
def rSortE (K : PySem.W.Frag) : List V → Hp → VK → Prop := fun vs H Q => ∃ (a : Addr) (xs : List V) (bs : List (List Int)), vs = [V.ref a] ∧ SqL K H a xs ∧ TrA K H xs (([] :: bs).map tupI) ∧
  ∀ (ys : List V) (p : Addr), TrA K H ys ((isortL ([] :: bs)).map tupI) → H p = none → Q (.ref p) (upd H p (.lst ys))
theorem call_sortE (hu : X.A.units + 65 < cLine) : CallR X (.builtin "sorted") (rSortE X.K) := by
  intro pins s σ H vs us Q I r h
  obtain ⟨a, xs, bs, rfl, hs, t, q⟩ := h
  obtain ⟨its, rv, hl, hz⟩ := I.list hs
  rw [Vals.ref1 r]
  obtain ⟨e1, e2⟩ := each_of I rv t
  have hlen : xs.length = ([] :: bs).length := by rw [t.len, List.length_map]
  refine PySem.W.sorted_dataZ hl.isList e1 e2 (PySem.W.AllAlike.of fun b b' => ?_) rfl (fun b hb => ⟨_, rfl⟩) (by rw [← hlen]; exact hz) (fun b hb => ?_) fun out ho eo => ?_
  · show PySem.W.alike (.tuple (b.map .int)) (.tuple (b'.map .int)) = true
    simp only [PySem.W.alike]
    exact PySem.W.alike_ints b b'
  · have : (tupI b).depth ≤ 1 := by
      unfold tupI
      simp only [PyData.depth]
      rw [PySem.W.depth_ints]
      omega
    omega
  · rw [merge_I] at eo
    obtain ⟨ys, h1, h2⟩ := each_back eo
    obtain ⟨ep, he'⟩ := PyProof.Rows.sortedAll_at s.heap its out.toArray
    have hl2 : ys.length ≤ sizeLine := by
      rw [h2.len, List.length_map, (isortL_perm ([] :: bs)).length_eq, ← hlen]
      exact hz
    exact ⟨.ref _, upd H (s.heap.objs.size + 1) (.lst ys), I.laid (t' := s.toks) (fun _ _ => PyProof.Rows.sortedAll_old) (Nat.le_succ _) ⟨hl2, out, ep, h1, he'⟩, rfl, q _ _ h2 (I.hok.fresh (Nat.le_succ _))⟩
def rowsA : List PD → Option (List (List Int))
  | [] => some []
  | .tuple l :: ds => (intsOf l).bind fun ns => (rowsA ds).map fun bs => ns :: bs
  | _ :: _ => none
theorem rowsA_map : ∀ {ds : List PD} {bs : List (List Int)}, rowsA ds = some bs → ds = bs.map tupI
  | [], _, e => by cases e; rfl
  | d :: ds, bs, e => by
    cases d <;> first | (cases e; done) | skip
    case tuple l =>
      obtain ⟨ns, h1, e⟩ := obind e
      obtain ⟨cs, h2, rfl⟩ := omap e
      have h3 := rowsA_map h2
      have h5 := intsOf_map h1
      show _ :: _ = tupI ns :: cs.map tupI
      rw [h3]
      unfold tupI
      rw [h5]
def hSort3 : PD → Option Rs
  | .list (.tuple [] :: l) => (rowsA l).map fun bs => .new ((isortL ([] :: bs)).map tupI)
  | d => hSort2 d
abbrev rSort3 (K : PySem.W.Frag) : List V → Hp → VK → Prop := fun vs H Q => ((rSortedI K vs H Q ∨ rSortT K vs H Q) ∨ rSortD K vs H Q) ∨ rSortE K vs H Q
theorem call_sort3 (hu : X.A.units + 65 < cLine) : CallR X (.builtin "sorted") (rSort3 X.K) := CallR.or (call_sort2 hu) (call_sortE hu)
theorem u_sort3 : UnR1 K (rSort3 K) hSort3 := by
  intro H x d rs Q t e q
  unfold hSort3 at e
  split at e
  · rename_i l
    obtain ⟨bs, e1, e2⟩ := omap e
    cases e2
    have h1 := rowsA_map e1
    obtain ⟨p, xs, rfl, h, t⟩ := t.seq
    refine .inr ⟨p, xs, bs, rfl, h, by rw [List.map_cons, ← h1]; exact t, fun ys p t2 hp => ?_⟩
    exact q _ _ (nr_new hp t2)
  · exact .inl (u_sort2 H x d rs Q t e q)
end
end Dv
set_option Elab.async false
set_option linter.all false
set_option maxRecDepth 100000
set_option maxHeartbeats 4000000
namespace Dv
open PySem PySem.Spec PyProof.Rows L2 Gq
end Dv
set_option Elab.async false
set_option linter.all false
set_option maxRecDepth 100000
set_option maxHeartbeats 4000000
namespace Ck
open PySem PySem.Spec
open Sem (wp)
theorem mro_c : mroOf (.type "itertools.combinations") = pure [.type "itertools.combinations", .type "object"] := by rw [mroOf_type]; kernel_rfl
theorem lookup_new_c : typeLookup (.type "itertools.combinations") "__new__" = pure (some (.builtin "itertools.combinations.__new__")) := by rw [typeLookup_type, builtinLookup_eq_fast]; kernel_rfl
theorem slot_init_c : Slot "itertools.combinations" "__init__" "object.__init__" :=
  .of (owner := "object") (n := "__init__") (by rw [typeLookup_type, builtinLookup_eq_fast]; kernel_rfl) (by decide +kernel) (by decide +kernel) (by decide +kernel)
    (by first | exact .inl (by decide +kernel) | exact .inr (by decide +kernel)) (by rw [isSubtype_type]; kernel_rfl)
theorem sub_c : isSubtype (.type "itertools.combinations") (.type "itertools.combinations") = pure true := by rw [isSubtype_type]; kernel_rfl
theorem called_c : TypeCalled "itertools.combinations" "itertools.combinations.__new__" "object.__init__" :=
  ⟨by decide +kernel, by decide +kernel, ⟨_, _, mro_c⟩, madeBy_type mro_c lookup_new_c (by decide +kernel), by decide +kernel, sub_c, slot_init_c⟩
theorem typeCall_c (a b : Value) : checkTypeCall "itertools.combinations" ⟨[a, b], []⟩ = pure () := by kernel_rfl
theorem newCall_c (a b : Value) : checkBuiltinCall "itertools.combinations.__new__" ⟨[.type "itertools.combinations", a, b], []⟩ = pure () := by kernel_rfl
theorem entry_new_c : entryFor table "itertools.combinations.__new__" = some Builtin.«itertools.combinations.__new__» := entryFor_of_tree (by kernel_rfl)
theorem slot_iter_c : Slot "itertools.combinations" "__iter__" "itertools.combinations.__iter__" :=
  .of (owner := "itertools.combinations") (n := "__iter__") (by rw [typeLookup_type, builtinLookup_eq_fast]; kernel_rfl) (by decide +kernel) (by decide +kernel) (by decide +kernel)
    (by first | exact .inl (by decide +kernel) | exact .inr (by decide +kernel)) sub_c
theorem slot_next_c : Slot "itertools.combinations" "__next__" "itertools.combinations.__next__" :=
  .of (owner := "itertools.combinations") (n := "__next__") (by rw [typeLookup_type, builtinLookup_eq_fast]; kernel_rfl) (by decide +kernel) (by decide +kernel) (by decide +kernel)
    (by first | exact .inl (by decide +kernel) | exact .inr (by decide +kernel)) sub_c
theorem entry_iter_c : entryFor table "itertools.combinations.__iter__" = some Builtin.«dict_keyiterator.__iter__» :=
  entryFor_alias (id' := "dict_keyiterator.__iter__") (by kernel_rfl) (by first | rfl | decide +kernel | (unfold String.splitOn; simp +decide [String.splitOnAux])) (by decide +kernel) (by kernel_rfl)
theorem entry_next_c : entryFor table "itertools.combinations.__next__" = some Builtin.«itertools.combinations.__next__» := entryFor_of_tree (by kernel_rfl)
theorem owner_c : Manifest.owners.lookup (String.ofList "itertools.combinations".toList.reverse.reverse) = some Manifest.sig_itertools_combinations := by kernel_rfl
theorem args_iter_c (a : Value) : argsOk "itertools.combinations.__iter__" ⟨[a], []⟩ := by
  unfold argsOk; rw [signature?_of (id := "itertools.combinations.__iter__") (n := ['_', '_', 'r', 'e', 't', 'i', '_', '_']) (o := "itertools.combinations".toList.reverse) (by kernel_rfl) owner_c]; kernel_rfl
theorem args_next_c (a : Value) : argsOk "itertools.combinations.__next__" ⟨[a], []⟩ := by
  unfold argsOk; rw [signature?_of (id := "itertools.combinations.__next__") (n := ['_', '_', 't', 'x', 'e', 'n', '_', '_']) (o := "itertools.combinations".toList.reverse) (by kernel_rfl) owner_c]; kernel_rfl
theorem noDict_c : typeHasDict (.type "itertools.combinations") = false := by decide +kernel
end Ck
set_option Elab.async false
set_option linter.all false
set_option maxRecDepth 100000
set_option maxHeartbeats 4000000
namespace Ck
open PySem PySem.Spec
open Sem (wp)
theorem bind_c (a b : Value) : Builtin.Itertools.itBindNamed "combinations" ["iterable", "r"] 2 2 [a, b] [] = pure [some a, some b] := by kernel_rfl
theorem cls_c (a b : Value) : Builtin.Itertools.itClassAndRest "combinations" ⟨[.type "itertools.combinations", a, b], []⟩ = pure (.type "itertools.combinations", [a, b]) := by
  unfold Builtin.Itertools.itClassAndRest
  have hs : ("itertools." ++ "combinations") = "itertools.combinations" := by decide +kernel
  have ht : isType (.type "itertools.combinations") = pure true := by rfl
  simp only [hs, sub_c, ht]
  rfl
theorem rec_c (fs : List Value) : Builtin.Itertools.itNewRecord (.type "itertools.combinations") fs = newObj (.type "itertools.combinations") (.fields fs.toArray) := by
  unfold Builtin.Itertools.itNewRecord
  rw [noDict_c]
  rfl
section
variable {prog : Program} {w : World} {A : Around} {E : Value → Shared → Prop} {s : Shared}
theorem ssize_c {r : Int} {t : Tok} {Q : Int → Shared → Prop} (h0 : 0 ≤ r) (h1 : r ≤ 1048576) (h : Q r s) : wpAny (model prog w) A (Builtin.Itertools.itSsizeArg (.int r t)) Q E s := by
  have hn : ¬ ((decide (r < -(2 ^ 63 : Int)) || decide (r ≥ (2 ^ 63 : Int))) = true) := by
    rw [decide_eq_false (by omega), decide_eq_false (by omega)]
    decide
  unfold Builtin.Itertools.itSsizeArg
  repeat (first
      | wp_step
      | (refine wpAny_ite_false (decide_eq_false hn) ?_))
  all_goals first | exact h | skip
theorem new_c {iv : Value} {r : Int} {t : Tok} {P : PySem.Fin → Shared → Prop} (h0 : 0 ≤ r) (h1 : r ≤ 1048576)
    (hc : wpAny (model prog w) A (collect iv) (fun its s1 => its.length ≤ sizeLine ∧ P (.done (.ret (.ref (s1.heap.objs.size + 1)))) { s1 with heap := (s1.heap.push { cls := .type "tuple", data := .seq its.toArray }).push { cls := .type "itertools.combinations", data := .fields ([.ref s1.heap.objs.size, rawInt (if r.toNat > its.length then 2 else 0), .none] ++ (List.range r.toNat).map fun (i : Nat) => rawInt i).toArray } }) E s) :
    wpAny (model prog w) A (Builtin.«itertools.combinations.__new__» ⟨[.type "itertools.combinations", iv, .int r t], []⟩) P E s := by
  unfold Builtin.«itertools.combinations.__new__»
  refine wpAny_bind ?_
  refine wpAny_bind (m := Builtin.Itertools.itClassAndRest _ _) ?_
  rw [cls_c]
  refine wpAny_pure ?_
  refine wpAny_bind (m := Builtin.Itertools.itBindNamed _ _ _ _ _ _) ?_
  rw [bind_c]
  refine wpAny_pure ?_
  refine wpAny_bind (m := Builtin.Itertools.itSsizeArg _) (ssize_c h0 h1 ?_)
  refine wpAny_bind (m := collect _) (wpAny_mono hc ?_ fun _ _ e => e)
  rintro its s1 ⟨hl, h⟩
  have hr : ¬ r < 0 := by omega
  have hm : Builtin.Itertools.itTooMany r = false := by
    unfold Builtin.Itertools.itTooMany
    exact decide_eq_false (by omega)
  dsimp only
  rw [if_neg hr]
  simp only [hm, Bool.false_eq_true, if_false]
  refine wpAny_bind (m := newTuple _) (wpAny_newTuple ?_ hl)
  refine wpAny_pure ?_
  dsimp only
  rw [rec_c]
  refine wpAny_bind (wpAny_newObj_type ?_ ?_)
  rotate_left
  · show (List.toArray _).size ≤ sizeLine + 2
    rw [sizeLine_eq]
    simp
    omega
  refine wpAny_pure ?_
  have e : (s1.heap.push { cls := .type "tuple", data := .seq its.toArray }).objs.size = s1.heap.objs.size + 1 := PyProof.Rows.size_push' _ _
  rw [e]
  exact h
abbrev IsC (h : Heap) (it P : Addr) (st : Int) (res : Value) (ix : List Nat) : Prop := h.get? it = some { cls := .type "itertools.combinations", dict := none, data := .fields ([.ref P, rawInt st, res] ++ ix.map fun (i : Nat) => rawInt i).toArray, slots := #[] }
theorem iter_c {it P : Addr} {st : Int} {res : Value} {ix : List Nat} {Q : Value → Shared → Prop} (hit : IsC s.heap it P st res ix) (h : Q (.ref it) s) : wpAny (model prog w) A (pyIter (.ref it)) Q E s := by
  have hT : s.TypeIs (.ref it) "itertools.combinations" := ⟨_, hit, rfl⟩
  refine wpAny_pyIter_slot hT slot_iter_c (wpAny_call_entry slot_iter_c hT entry_iter_c ?_ (args_iter_c _))
  show wpAny _ _ (ret (.ref it)) _ _ s
  exact wpAny_pure ⟨_, rfl, "itertools.combinations", _, hT, slot_next_c.lookup, h⟩
def madeC (its : List Value) (r : Int) (s1 : Shared) : Shared := { s1 with heap := (s1.heap.push { cls := .type "tuple", data := .seq its.toArray }).push { cls := .type "itertools.combinations", data := .fields ([.ref s1.heap.objs.size, rawInt (if r.toNat > its.length then 2 else 0), .none] ++ (List.range r.toNat).map fun (i : Nat) => rawInt i).toArray } }
theorem meets_c {iv : Value} {r : Int} {t : Tok} (h0 : 0 ≤ r) (h1 : r ≤ 1048576) :
    Meets (Builtin.«itertools.combinations.__new__» ⟨[.type "itertools.combinations", iv, .int r t], []⟩)
      (fun A R s => ∀ prog w, wpAny (model prog w) A.in1 (collect iv) (fun its s1 => its.length ≤ sizeLine ∧ R (.ok (.ret (.ref (s1.heap.objs.size + 1)))) (madeC its r s1)) (fun e s' => R (.error e) s') s) :=
  .of_wp fun prog w A R s h => new_c h0 h1 (wpAny_mono (h prog w) (fun its s1 q => ⟨q.1, _, rfl, q.2⟩) fun _ _ e => e)
theorem call_c {iv : Value} {r : Int} {t : Tok} {Q : Value → Shared → Prop} (h0 : 0 ≤ r) (h1 : r ≤ 1048576)
    (hc : ∀ prog w, wpAny (model prog w) A.in1.in1 (collect iv) (fun its s1 => its.length ≤ sizeLine ∧ ∀ h', h'.get? s1.heap.objs.size = some { cls := .type "tuple", data := .seq its.toArray } → IsC h' (s1.heap.objs.size + 1) s1.heap.objs.size (if r.toNat > its.length then 2 else 0) .none (List.range r.toNat) → (∀ b o, s1.heap.get? b = some o → h'.get? b = some o) →
      Q (.ref (s1.heap.objs.size + 1)) { s1 with heap := h' }) E s) :
    wpAny (model prog w) A (call (.type "itertools.combinations") [iv, .int r t]) Q E s := by
  refine callType_new called_c (by decide +kernel) (typeCall_c _ _) (newCall_c _ _) (fun obj => F.args_object_init_3 obj _ _) entry_new_c (meets_c h0 h1) ?_
  intro prog w
  refine wpAny_mono (hc prog w) (fun its s1 q => ⟨q.1, ?_⟩) fun e s' h => h
  have e : (s1.heap.push { cls := .type "tuple", data := .seq its.toArray }).objs.size = s1.heap.objs.size + 1 := PyProof.Rows.size_push' _ _
  have g1 : (madeC its r s1).heap.get? (s1.heap.objs.size + 1) = some { cls := .type "itertools.combinations", data := .fields ([.ref s1.heap.objs.size, rawInt (if r.toNat > its.length then 2 else 0), .none] ++ (List.range r.toNat).map fun (i : Nat) => rawInt i).toArray } := by
    rw [← e]
    exact Heap.get?_push_size _ rfl
  exact ⟨⟨_, g1, rfl⟩, q.2 _ (Heap.get?_push_of_some _ (Heap.get?_push_size _ rfl)) g1 fun b o z => Heap.get?_push_of_some _ (Heap.get?_push_of_some _ z)⟩
end
end Ck
set_option Elab.async false
set_option linter.all false
set_option maxRecDepth 100000
set_option maxHeartbeats 4000000
namespace Ck
open PySem PySem.Spec
open Sem (wp)
section
variable {prog : Program} {w : World} {A : Around} {E : Value → Shared → Prop} {s : Shared}
theorem slotArgs_c (v : Value) : slotArgs "__next__" 0 ⟨[v], []⟩ = pure (v, []) := by rfl
theorem nums_c {it P : Addr} {st : Int} {res : Value} {ix : List Nat} {Q : List Nat → Shared → Prop} (hit : IsC s.heap it P st res ix) (h : Q ix s) : wpAny (model prog w) A (Builtin.Itertools.itNumbersFrom (.ref it) 3) Q E s := by
  unfold Builtin.Itertools.itNumbersFrom
  refine wpAny_bind (wpAny_load hit ?_)
  dsimp only
  refine wpAny_pure ?_
  refine (fun ys (z : ys = ix) => (z ▸ h : Q ys s)) _ ?_
  show List.map _ (ix.map fun (i : Nat) => rawInt i) = ix
  rw [List.map_map]
  exact (List.map_congr_left fun a _ => rfl).trans (List.map_id _)
theorem pool_c {P : Addr} {o : Obj} {items : Array Value} {n : Nat} {Q : Array Value → Shared → Prop} (hp : s.heap.get? P = some o) (hd : o.data = .seq items n) (h : Q items s) : wpAny (model prog w) A (Builtin.Itertools.itPoolItems (.ref P)) Q E s := by
  unfold Builtin.Itertools.itPoolItems
  refine wpAny_bind ?_
  show wpAny _ _ (load P >>= _) _ _ _
  refine wpAny_bind (wpAny_load hp ?_)
  rw [hd]
  exact wpAny_pure (wpAny_pure h)
theorem set_c {h : Heap} {it P : Addr} {st st' : Int} {res res' : Value} {ix ix' : List Nat} {f : Array Value → Array Value} (hit : IsC h it P st res ix)
    (hf : f ([.ref P, rawInt st, res] ++ ix.map fun (i : Nat) => rawInt i).toArray = ([.ref P, rawInt st', res'] ++ ix'.map fun (i : Nat) => rawInt i).toArray) : IsC (h.update it (Obj.mapFields f)) it P st' res' ix' := by
  have e := Heap.get?_update_self (Obj.mapFields f) hit rfl
  refine e.trans ?_
  show (some { cls := Value.type "itertools.combinations", dict := none, data := .fields (f _), slots := #[] } : Option Obj) = _
  rw [hf]
theorem hand_c {it P : Addr} {st : Int} {res : Value} {ix : List Nat} {o : Obj} {items : Array Value} {n : Nat} {Q : PySem.Fin → Shared → Prop} (hit : IsC s.heap it P st res ix) (hp : s.heap.get? P = some o) (hd : o.data = .seq items n) (hl : ix.length ≤ 1048576)
    (h : ∀ h', IsC h' it P st (.ref s.heap.objs.size) ix → h'.get? s.heap.objs.size = some { cls := .type "tuple", data := .seq (ix.map fun i => items.getD i .none).toArray } → (∀ b o, b ≠ it → s.heap.get? b = some o → h'.get? b = some o) → Q (.done (.ret (.ref s.heap.objs.size))) { s with heap := h' }) :
    wpAny (model prog w) A ((do let items ← Builtin.Itertools.itPoolItems (.ref P); newTuple (ix.map fun i => items.getD i .none)) >>= fun result => field (.ref it) 2 >>= fun before => setField (.ref it) 2 result >>= fun _ => letGo [before] [result] >>= fun _ => ret result) Q E s := by
  refine wpAny_bind (wpAny_bind (pool_c hp hd (wpAny_newTuple ?_ (by rw [List.length_map, sizeLine_eq]; omega))))
  have hlt : it < s.heap.objs.size := Heap.lt_size hit
  have hit1 : IsC (s.heap.push { cls := .type "tuple", data := .seq (ix.map fun i => items.getD i .none).toArray }) it P st res ix := Heap.get?_push_of_some _ hit
  refine wpAny_bind (wpAny_field hit1 rfl (x := res) rfl ?_)
  refine wpAny_bind (wpAny_setField hit1 rfl (by simp) ?_)
  refine wpAny_bind (m := letGo _ _) ?_
  refine wpAny_bind (wpAny_holding (wpAny_point (wpAny_pure ?_)))
  refine wpAny_pure (h _ (set_c hit1 ?_) ?_ fun b ob hb e => ?_)
  · simp
  · exact (Heap.get?_update_ne _ _ _ _ (Nat.ne_of_gt hlt)).trans (Heap.get?_push_size _ rfl)
  · exact (Heap.get?_update_ne _ _ _ _ hb).trans (Heap.get?_push_of_some _ e)
theorem turn0_c {it P : Addr} {res : Value} {ix : List Nat} {o : Obj} {items : Array Value} {n : Nat} {Q : PySem.Fin → Shared → Prop} (hit : IsC s.heap it P 0 res ix) (hne : P ≠ it) (hp : s.heap.get? P = some o) (hd : o.data = .seq items n) (hl : ix.length ≤ 1048576)
    (h : ∀ h', IsC h' it P 1 (.ref s.heap.objs.size) ix → h'.get? s.heap.objs.size = some { cls := .type "tuple", data := .seq (ix.map fun i => items.getD i .none).toArray } → (∀ b o, b ≠ it → s.heap.get? b = some o → h'.get? b = some o) → Q (.done (.ret (.ref s.heap.objs.size))) { s with heap := h' }) :
    wpAny (model prog w) A (Builtin.«itertools.combinations.__next__» ⟨[.ref it], []⟩) Q E s := by
  unfold Builtin.«itertools.combinations.__next__»
  refine wpAny_bind (m := slotArgs "__next__" 0 _) ?_
  rw [slotArgs_c]
  refine wpAny_pure ?_
  refine wpAny_bind (m := field _ 0) (wpAny_field hit rfl (x := .ref P) rfl ?_)
  refine wpAny_bind (m := Builtin.Itertools.itNumbersFrom _ 3) (nums_c hit ?_)
  refine wpAny_bind (m := Builtin.Itertools.itIntField _ 1) ?_
  refine wpAny_bind (m := field _ 1) (wpAny_field hit rfl (x := rawInt 0) rfl (wpAny_pure ?_))
  have hsz : (s.heap.update it (Obj.mapFields (·.setIfInBounds 1 (rawInt 1)))).objs.size = s.heap.objs.size := Heap.size_update _ _ _
  refine wpAny_bind (m := setField _ 1 _) (wpAny_setField hit rfl (by simp) ?_)
  refine hand_c (st := 1) (res := res) (set_c hit (by simp)) ((Heap.get?_update_ne _ _ _ _ hne).trans hp) hd hl fun h' a1 a2 a3 => ?_
  dsimp only at a1 a2 a3
  rw [hsz] at a1 a2
  have q := h h' a1 a2 fun b ob hb e => a3 b ob hb ((Heap.get?_update_ne _ _ _ _ hb).trans e)
  show Q (.done (.ret (.ref (s.heap.update it (Obj.mapFields (·.setIfInBounds 1 (rawInt 1)))).objs.size))) _
  rw [hsz]
  exact q
end
end Ck
set_option Elab.async false
set_option linter.all false
set_option maxRecDepth 100000
set_option maxHeartbeats 4000000
namespace Ck
open PySem PySem.Spec
open Sem (wp)
section
variable {prog : Program} {w : World} {A : Around} {E : Value → Shared → Prop} {s : Shared}
theorem stop_c {α : Type} {Q : α → Shared → Prop} {it : Addr} (hh : A.handled = none) (hQ : ∀ e h', CpRep.StopE e h' → Heap.ExtBut it s.heap h' → E e { s with heap := h' }) : wpAny (model prog w) A (Builtin.Itertools.itStop : Sem α) Q E s := by
  unfold Builtin.Itertools.itStop
  refine wpAny_bind ?_
  show wpAny _ _ (newExc (.type "StopIteration") []) _ _ _
  simp only [newExc, newTuple]
  refine wpAny_bind (wpAny_newObj_type ?_ (by size_fits))
  refine wpAny_bind (m := firstArgMember _ _) (wpAny_of_eq (a := Value.none) (by first | rfl | (simp only [firstArgMember]; rfl)) ?_)
  refine wpAny_newObj_type ?_ (by size_fits)
  simp only [raiseNew]
  refine wpAny_bind (wpAny_handled ?_)
  rw [hh]
  refine wpAny_bind (wpAny_pure (wpAny_throw ?_))
  exact hQ _ _ ⟨_, _, _, rfl, Heap.get?_push_size _ rfl, rfl, rfl, rfl⟩ (((Heap.ExtBut.refl it s.heap).push _).push _)
theorem put_c {it P : Addr} {st : Int} {res : Value} {ix nx : List Nat} {Q : Unit → Shared → Prop} (hit : IsC s.heap it P st res ix) (hl : nx.length ≤ 1048576)
    (h : ∀ h', IsC h' it P st res nx → h'.objs.size = s.heap.objs.size → (∀ b, b ≠ it → h'.get? b = s.heap.get? b) → Q () { s with heap := h' }) : wpAny (model prog w) A (Builtin.Itertools.itSetNumbersFrom (.ref it) 3 nx) Q E s := by
  unfold Builtin.Itertools.itSetNumbersFrom
  refine wpAny_updateFields hit rfl (h _ (set_c hit ?_) (Heap.size_update _ _ _) fun b hb => Heap.get?_update_ne _ _ _ _ hb) ?_
  · simp
  · simp
    rw [sizeLine_eq]
    omega
end
def StepC (f : Nat → List Nat → Option (List Nat)) : Prop :=
  ∀ (prog : Program) (w : World) (A : Around) (E : Value → Shared → Prop) (s : Shared) (it P : Addr) (res : Value) (ix : List Nat) (o : Obj) (items : Array Value) (n : Nat) (Q : PySem.Fin → Shared → Prop), IsC s.heap it P 1 res ix → P ≠ it → s.heap.get? P = some o → o.data = .seq items n → A.handled = none →
    (∀ nx, f items.size ix = some nx → nx.length ≤ 1048576 ∧ ∀ h', IsC h' it P 1 (.ref s.heap.objs.size) nx → h'.get? s.heap.objs.size = some { cls := .type "tuple", data := .seq (nx.map fun i => items.getD i .none).toArray } → (∀ b o, b ≠ it → s.heap.get? b = some o → h'.get? b = some o) → Q (.done (.ret (.ref s.heap.objs.size))) { s with heap := h' }) →
    (f items.size ix = none → ∀ e h', CpRep.StopE e h' → Heap.ExtBut it s.heap h' → E e { s with heap := h' }) →
    wpAny (model prog w) A (Builtin.«itertools.combinations.__next__» ⟨[.ref it], []⟩) Q E s
def capC : { f : Nat → List Nat → Option (List Nat) // StepC f } := by
  apply Subtype.mk
  intro prog w A E s it P res ix o items n Q hit hne hp hd hh h1 h0
  unfold Builtin.«itertools.combinations.__next__»
  refine wpAny_bind (m := slotArgs "__next__" 0 _) ?_
  rw [slotArgs_c]
  refine wpAny_pure ?_
  refine wpAny_bind (m := field _ 0) (wpAny_field hit rfl (x := .ref P) rfl ?_)
  refine wpAny_bind (m := Builtin.Itertools.itNumbersFrom _ 3) (nums_c hit ?_)
  refine wpAny_bind (m := Builtin.Itertools.itIntField _ 1) ?_
  refine wpAny_bind (m := field _ 1) (wpAny_field hit rfl (x := rawInt 1) rfl (wpAny_pure ?_))
  refine wpAny_bind (m := Builtin.Itertools.itPoolItems _) (pool_c hp hd ?_)
  dsimp only
  split
  · rename_i nx heq
    obtain ⟨hl, h⟩ := h1 nx heq
    refine wpAny_bind (m := Builtin.Itertools.itSetNumbersFrom _ 3 _) (put_c hit hl fun h2 i2 sz k2 => ?_)
    refine hand_c (st := 1) (res := res) i2 ((k2 _ hne).trans hp) hd hl fun h' a1 a2 a3 => ?_
    dsimp only at a1 a2 a3
    rw [sz] at a1 a2
    have q := h h' a1 a2 fun b ob hb e => a3 b ob hb ((k2 _ hb).trans e)
    show Q (.done (.ret (.ref h2.objs.size))) _
    rw [sz]
    exact q
  · rename_i heq
    refine wpAny_bind (m := setField _ 1 _) (wpAny_setField hit rfl (by simp) (stop_c (it := it) hh fun e h' z x => h0 heq e h' z ?_))
    exact (Heap.SameBut.update ..).extBut.trans x
end Ck
namespace Ck
end Ck
set_option Elab.async false
set_option linter.all false
set_option maxRecDepth 100000
set_option maxHeartbeats 4000000
namespace Ck
open PySem PySem.Spec PyProof.Rows L2 Dv
open Sem (wp)
section
variable {prog : Program} {w : World} {A : Around} {E : Value → Shared → Prop} {s : Shared}
theorem end2_c {it P : Addr} {res : Value} {ix : List Nat} {Q : PySem.Fin → Shared → Prop} (hh : A.handled = none) (hit : IsC s.heap it P 2 res ix) (hQ : ∀ e h', CpRep.StopE e h' → Heap.ExtBut it s.heap h' → E e { s with heap := h' }) :
    wpAny (model prog w) A (Builtin.«itertools.combinations.__next__» ⟨[.ref it], []⟩) Q E s := by
  unfold Builtin.«itertools.combinations.__next__»
  refine wpAny_bind (m := slotArgs "__next__" 0 _) ?_
  rw [slotArgs_c]
  refine wpAny_pure ?_
  refine wpAny_bind (m := field _ 0) (wpAny_field hit rfl (x := .ref P) rfl ?_)
  refine wpAny_bind (m := Builtin.Itertools.itNumbersFrom _ 3) (nums_c hit ?_)
  refine wpAny_bind (m := Builtin.Itertools.itIntField _ 1) ?_
  refine wpAny_bind (m := field _ 1) (wpAny_field hit rfl (x := rawInt 2) rfl (wpAny_pure ?_))
  refine wpAny_bind (m := rule _) (wpAny_rule ?_)
  exact stop_c (it := it) hh hQ
theorem next_c {it P : Addr} {st : Int} {res : Value} {ix : List Nat} {Q : Option Value → Shared → Prop} (hit : IsC s.heap it P st res ix)
    (h : wpAny (model prog w) A.in1 (Builtin.«itertools.combinations.__next__» ⟨[.ref it], []⟩) (fun fin s' => ∃ v, fin = .done (.ret v) ∧ Q (some v) s') (fun e s' => CpRep.StopE e s'.heap ∧ Q none s') s) : wpAny (model prog w) A (pyNext (.ref it)) Q E s := by
  have hT : s.TypeIs (.ref it) "itertools.combinations" := ⟨_, hit, rfl⟩
  unfold pyNext
  refine wpAny_bind (wpAny_attempt (wpAny_callSpecial?_slot (name := Str.ofString "__next__") hT slot_next_c (wpAny_call_entry slot_next_c hT entry_next_c (wpAny_mono h (fun fin s' q => ?_) fun e s' q => ?_) (args_next_c _))))
  · obtain ⟨v, rfl, q⟩ := q
    exact ⟨v, rfl, wpAny_pure q⟩
  · obtain ⟨⟨a, o, vs, rfl, ho, hc, _⟩, q⟩ := q
    refine wpAny_bind (wpAny_isInstance (T := "StopIteration") (b := true) ⟨o, ho, hc⟩ isSubtype_stop ?_)
    exact wpAny_pure q
end
def runC (n : Nat) : Nat → List Nat → Option (List (List Nat))
  | 0, _ => none
  | k + 1, ix => match Nat.ble ix.length 1000 with
    | false => none
    | true => match capC.1 n ix with
      | none => some [ix]
      | some nx => (runC n k nx).map fun l => ix :: l
def rowsC (n r : Nat) : Option (List (List Nat)) := match Nat.ble r n with
  | true => runC n 100000 (List.range r)
  | false => some []
theorem runC_ok {n : Nat} : ∀ {k : Nat} {ix : List Nat} {L : List (List Nat)}, runC n k ix = some L → L[0]? = some ix ∧ (∀ i jx, L[i]? = some jx → jx.length ≤ 1048576 ∧ capC.1 n jx = L[i + 1]?)
  | 0, _, _, e => by cases e
  | k + 1, ix, L, e => by
    unfold runC at e
    split at e
    · cases e
    · rename_i hb
      have hlen : ix.length ≤ 1048576 := by
        have := Nat.le_of_ble_eq_true hb
        omega
      split at e
      · rename_i hn
        cases e
        refine ⟨rfl, fun i jx h => ?_⟩
        cases i with
        | zero =>
          cases h
          exact ⟨hlen, hn⟩
        | succ i => simp at h
      · rename_i nx hn
        obtain ⟨l, e1, rfl⟩ := omap e
        obtain ⟨h0, h1⟩ := runC_ok e1
        refine ⟨rfl, fun i jx h => ?_⟩
        cases i with
        | zero =>
          cases h
          exact ⟨hlen, by rw [hn]; exact h0.symm⟩
        | succ i => exact h1 i jx h
end Ck
set_option Elab.async false
set_option linter.all false
set_option maxRecDepth 100000
set_option maxHeartbeats 4000000
namespace Ck
open PySem PySem.Spec PyProof.Rows L2 Dv
open Sem (wp)
def ItF (rows : List (List V)) : It :=
  ⟨fun i _ => i < rows.length, fun i H v H' => ∃ (T : Addr) (o : Obj) (xs : List V), v = .ref T ∧ H T = none ∧ o.dict = none ∧ rows[i]? = some xs ∧ H' = upd H T (.frz o (.tup xs)), fun i _ => rows.length ≤ i⟩
def pickV (xs : List V) (ix : List Nat) : List V := ix.map fun j => xs.getD j .non
theorem pick_vals {xs : List V} {its : List Value} (h : Vals xs its) : ∀ ix : List Nat, Vals (pickV xs ix) (ix.map fun i => its.toArray.getD i .none)
  | [] => .nil
  | j :: ix => by
    refine .cons ?_ (pick_vals h ix)
    show RelV (xs.getD j .non) (its.toArray.getD j .none)
    have hl := h.length
    by_cases hj : j < xs.length
    · obtain ⟨u, hu, ru⟩ := h.get (List.getElem?_eq_getElem hj)
      have hj2 : j < its.length := by omega
      have e1 : xs.getD j .non = xs[j] := by simp [hj]
      have e2 : its.toArray.getD j .none = u := by
        rw [List.getElem?_eq_getElem hj2] at hu
        have := Option.some.inj hu
        simp [Array.getD, hj2, this]
      rw [e1, e2]
      exact ru
    · have hj2 : ¬ j < its.length := by omega
      have e1 : xs.getD j .non = .non := by simp [Nat.le_of_not_lt hj]
      have e2 : its.toArray.getD j .none = Value.none := by simp [Array.getD, hj2]
      rw [e1, e2]
      exact rfl
def tnC (n r : Nat) (L : List (List Nat)) (it P : Addr) (its : List Value) (i : Nat) (h : Heap) : Prop :=
  it ≠ P ∧ (∃ o k, h.get? P = some o ∧ o.data = .seq its.toArray k) ∧ match i with
    | 0 => IsC h it P (if r > n then 2 else 0) .none (List.range r)
    | i + 1 => ∃ res ix, L[i]? = some ix ∧ IsC h it P 1 res ix
theorem turn_c {X0 : Program} {w : World} {K : PySem.W.Frag} {tg : Expr} {r : Nat} {L : List (List Nat)} {it P : Addr} {its : List Value} {xs : List V} (rv : Vals xs its) (hr : r ≤ 1048576) (hL : rowsC its.length r = some L) :
    Turn X0 w K tg (ItF (L.map (pickV xs))) [it, P] it (tnC its.length r L it P its) where
  mem := by simp
  obj := fun i h st b hb => by
    obtain ⟨hne, ⟨o, k, ho, hd⟩, st⟩ := st
    have e' : b = it ∨ b = P := by simpa using hb
    rcases e' with q | q
    · subst q
      cases i with
      | zero => exact ⟨_, st, fun v q => nomatch q⟩
      | succ i =>
        obtain ⟨res, ix, _, st⟩ := st
        exact ⟨_, st, fun v q => nomatch q⟩
    · subst q
      exact ⟨o, ho, fun v q => by rw [hd] at q; cases q⟩
  keep := fun i h h' st k => by
    obtain ⟨hne, ⟨o, k', ho, hd⟩, st⟩ := st
    refine ⟨hne, ⟨o, k', k P (by simp) _ ho, hd⟩, ?_⟩
    cases i with
    | zero => exact k it (by simp) _ st
    | succ i =>
      obtain ⟨res, ix, e, st⟩ := st
      exact ⟨res, ix, e, k it (by simp) _ st⟩
  item := by
    intro X hP hw hK hc i pins s σ H E I hf st hg
    subst hP hw hK
    obtain ⟨hne, ⟨o, k, ho, hd⟩, st⟩ := st
    have hg : i < (L.map (pickV xs)).length := hg
    rw [List.length_map] at hg
    have hix : L[i]? = some L[i] := List.getElem?_eq_getElem hg
    -- the last lines are the same for both
    have fin : ∀ (ix : List Nat) (h' : Heap) (res : Value), L[i]? = some ix → ix.length ≤ 1048576 → IsC h' it P 1 (.ref s.heap.objs.size) ix → h'.get? s.heap.objs.size = some { cls := .type "tuple", data := .seq (ix.map fun j => its.toArray.getD j .none).toArray } → (∀ b o, b ≠ it → s.heap.get? b = some o → h'.get? b = some o) →
        ∃ u, some (Value.ref s.heap.objs.size) = some u ∧ wpAny (model X.prog X.w) X.A (letOwnedTupleGo tg (.ref it) u) (fun _ s2 => ∃ x H', Inv X pins σ H' s2 ∧ RelV x u ∧ (ItF (L.map (pickV xs))).yld i H x H' ∧ tnC its.length r L it P its (i + 1) s2.heap ∧ ∀ b ∈ [it, P], H' b = none) E { s with heap := h' } := by
      intro ix h' res hx hl a1 a2 a3
      have hlt : it < s.heap.objs.size := by
        have hgt : ∃ oo, s.heap.get? it = some oo := by
          cases i with
          | zero => exact ⟨_, st⟩
          | succ i =>
            obtain ⟨_, _, _, st⟩ := st
            exact ⟨_, st⟩
        obtain ⟨oo, z⟩ := hgt
        exact Heap.lt_size z
      have hPl : P < s.heap.objs.size := Heap.lt_size ho
      have new : ObjOk X.prog X.w (upd H s.heap.objs.size (.frz { cls := .type "tuple", data := .seq (ix.map fun j => its.toArray.getD j .none).toArray } (.tup (pickV xs ix)))) h' s.heap.objs.size (.frz { cls := .type "tuple", data := .seq (ix.map fun j => its.toArray.getD j .none).toArray } (.tup (pickV xs ix))) :=
        ⟨a2, by show (pickV xs ix).length ≤ sizeLine; unfold pickV; rw [List.length_map, sizeLine_eq]; omega, _, pick_vals rv ix, ⟨_, a2, rfl, _, rfl⟩⟩
      have I1 := I.turnedNew (t' := s.toks) (ch := [it, P]) (h' := h') (fun b ob hb q => a3 b ob (fun z => hb (by simp [z])) q) hf (Nat.le_refl _) new
      refine ⟨_, rfl, go_of (s := { s with heap := h' }) a1 rfl rfl (by decide) ⟨.ref s.heap.objs.size, _, I1, rfl, ⟨_, _, _, rfl, I.hok.fresh (Nat.le_refl _), rfl, by rw [List.getElem?_map, hx]; rfl, rfl⟩, ⟨hne, ⟨o, k, a3 _ _ (Ne.symm hne) ho, hd⟩, _, _, hx, a1⟩, fun b hb => ?_⟩⟩
      have e' : b = it ∨ b = P := by simpa using hb
      have hbl : b < s.heap.objs.size := by
        rcases e' with q | q
        · rw [q]; exact hlt
        · rw [q]; exact hPl
      rw [upd_ne (Nat.ne_of_lt hbl)]
      exact (hf b hb).1
    cases i with
    | zero =>
      have st : IsC s.heap it P (if r > its.length then 2 else 0) .none (List.range r) := st
      have hr2 : r ≤ its.length := by
        cases Nat.lt_or_ge its.length r with
        | inl q =>
          have e : Nat.ble r its.length = false := by
            cases z : Nat.ble r its.length with
            | false => rfl
            | true => have := Nat.le_of_ble_eq_true z; omega
          unfold rowsC at hL
          rw [e] at hL
          cases hL
          exact absurd hg (by simp)
        | inr q => exact q
      rw [if_neg (by omega)] at st
      unfold rowsC at hL
      rw [Nat.ble_eq_true_of_le hr2] at hL
      obtain ⟨g0, g1⟩ := runC_ok hL
      refine next_c st (turn0_c st (Ne.symm hne) ho hd (by simp; omega) fun h' a1 a2 a3 => ⟨_, rfl, ?_⟩)
      exact fin _ h' .none g0 (by simp; omega) a1 a2 a3
    | succ i =>
      obtain ⟨res, ix, hx, st⟩ := st
      have hr2 : r ≤ its.length := by
        cases Nat.lt_or_ge its.length r with
        | inl q =>
          have e : Nat.ble r its.length = false := by
            cases z : Nat.ble r its.length with
            | false => rfl
            | true => have := Nat.le_of_ble_eq_true z; omega
          unfold rowsC at hL
          rw [e] at hL
          cases hL
          exact absurd hg (by simp)
        | inr q => exact q
      unfold rowsC at hL
      rw [Nat.ble_eq_true_of_le hr2] at hL
      obtain ⟨g0, g1⟩ := runC_ok hL
      refine next_c st (capC.2 _ _ _ _ _ _ _ _ _ _ its.toArray k _ st (Ne.symm hne) ho hd (I.ok.hd hc) (fun nx hn => ?_) fun hn => ?_)
      · have e1 : its.toArray.size = its.length := by simp
        rw [e1, (g1 _ _ hx).2] at hn
        have hl := (g1 _ _ hn).1
        exact ⟨hl, fun h' a1 a2 a3 => ⟨_, rfl, fin _ h' .none hn hl a1 a2 a3⟩⟩
      · have e1 : its.toArray.size = its.length := by simp
        rw [e1, (g1 _ _ hx).2, hix] at hn
        cases hn
  done := by
    intro X hP hw hK hc i pins s σ H E I hf st hg
    subst hP hw hK
    obtain ⟨hne, ⟨o, k, ho, hd⟩, st⟩ := st
    have hg : (L.map (pickV xs)).length ≤ i := hg
    rw [List.length_map] at hg
    have fin : ∀ (e : Value) (h' : Heap), CpRep.StopE e h' → Heap.ExtBut it s.heap h' → CpRep.StopE e h' ∧ ((none : Option Value) = none ∧ Inv X pins σ H { s with heap := h' }) := fun e h' z x =>
      ⟨z, rfl, I.turnedL (t' := s.toks) (ch := [it, P]) (fun b ob hb q => x b ob (fun z => hb (by simp [z])) q) hf⟩
    cases i with
    | zero =>
      have st : IsC s.heap it P (if r > its.length then 2 else 0) .none (List.range r) := st
      have hr2 : its.length < r := by
        cases Nat.lt_or_ge its.length r with
        | inl q => exact q
        | inr q =>
          unfold rowsC at hL
          rw [Nat.ble_eq_true_of_le q] at hL
          obtain ⟨g0, _⟩ := runC_ok hL
          rw [List.getElem?_eq_none_iff.mpr (by omega)] at g0
          cases g0
      rw [if_pos hr2] at st
      exact next_c st (end2_c (I.ok.hd hc) st fin)
    | succ i =>
      obtain ⟨res, ix, hx, st⟩ := st
      have hi := (List.getElem?_eq_some_iff.mp hx).1
      have hr2 : r ≤ its.length := by
        cases Nat.lt_or_ge its.length r with
        | inl q =>
          have e : Nat.ble r its.length = false := by
            cases z : Nat.ble r its.length with
            | false => rfl
            | true => have := Nat.le_of_ble_eq_true z; omega
          unfold rowsC at hL
          rw [e] at hL
          cases hL
          exact absurd hi (by simp)
        | inr q => exact q
      unfold rowsC at hL
      rw [Nat.ble_eq_true_of_le hr2] at hL
      obtain ⟨g0, g1⟩ := runC_ok hL
      refine next_c st (capC.2 _ _ _ _ _ _ _ _ _ _ its.toArray k _ st (Ne.symm hne) ho hd (I.ok.hd hc) (fun nx hn => ?_) fun hn => fin)
      have e1 : its.toArray.size = its.length := by simp
      rw [e1, (g1 _ _ hx).2, List.getElem?_eq_none_iff.mpr (by omega)] at hn
      cases hn
  self := fun A i s Q E st h => by
    obtain ⟨hne, _, st⟩ := st
    cases i with
    | zero => exact iter_c st h
    | succ i =>
      obtain ⟨res, ix, _, st⟩ := st
      exact iter_c st h
end Ck
set_option Elab.async false
set_option linter.all false
set_option maxRecDepth 100000
set_option maxHeartbeats 4000000
namespace Ck
open PySem PySem.Spec PyProof.Rows L2 Dv
open Sem (wp)
def PMP (X : Cx) (pins : List (Addr × Obj)) (σ : L2.St) (tg : Expr) (T : String) (R : It → Hp → Prop) (v : Value) (s2 : Shared) : Prop :=
  ∃ (it : Addr) (fp : List Addr) (tn : Nat → Heap → Prop) (J : It) (H' : Hp), v = .ref it ∧ Inv X pins σ H' s2 ∧ Turn X.prog X.w X.K tg J fp it tn ∧ tn 0 s2.heap ∧ (∀ b ∈ fp, FpOk X pins H' b) ∧ (∀ i h, tn i h → ∃ o, h.get? it = some o ∧ o.cls = .type T) ∧ R J H'
def PM (X : Cx) (T : String) (iter : Expr) (wi : TI) : Prop := ∀ (tg : Expr) (pins : List (Addr × Obj)) (s : Shared) (σ : L2.St) (H : Hp) (R : It → Hp → Prop), Inv X pins σ H s → wi σ H R →
  wpAny (model X.prog X.w) X.A (eval iter X.env) (PMP X pins σ tg T R) X.xe s
theorem PM.pi {X : Cx} {T : String} {iter tg : Expr} {wi : TI} (h : PM X T iter wi) : PI X tg iter wi := by
  refine ⟨fun pins s σ H R I w => thn (h tg pins s σ H R I w) fun v s1 ⟨it, fp, tn, J, H', e, I1, T1, st, hf, _, q⟩ => ?_⟩
  subst e
  exact T1.self _ 0 _ _ _ st ⟨it, fp, tn, J, H', rfl, I1, T1, st, hf, q⟩
section
variable {X : Cx}
theorem cr_range1 : CallR X (.type "range") (fun vs H Q => ∃ j, vs = [V.int j] ∧ ∀ p, H p = none → Q (.ref p) (upd H p (.rng 0 j))) := by
  intro pins s σ H vs us Q I r h
  obtain ⟨j, rfl, q⟩ := h
  cases r with
  | cons rj r =>
    cases r
    obtain ⟨t, rfl⟩ := rj
    refine call_range_1 ⟨.ref s.heap.objs.size, upd H s.heap.objs.size (.rng 0 j), I.laid (t' := s.toks + 2) (fun b o e => Heap.get?_push_of_some _ e) (Nat.le_refl _) ?_, rfl, q _ (I.hok.fresh (Nat.le_refl _))⟩
    exact ⟨_, _, _, Heap.get?_push_size _ rfl⟩
def Src (K : PySem.W.Frag) (H : Hp) (p : Addr) (xs : List V) : Prop :=
  (∃ j : Int, H p = some (.rng 0 j) ∧ (-(2 ^ 62) ≤ j ∧ j < 2 ^ 62 ∧ (j - 0).toNat ≤ 2 ^ 24) ∧ xs = rgV 0 j) ∨ SqL K H p xs ∨ SqT K H p xs
def iCombs (K : PySem.W.Frag) (ta : TA) : TI := fun σ H R => ta σ H fun vs H1 => ∃ (p : Addr) (r : Int) (xs : List V) (L : List (List Nat)), vs = [.ref p, .int r] ∧ 0 ≤ r ∧ r ≤ 1048576 ∧ Src K H1 p xs ∧ rowsC xs.length r.toNat = some L ∧ R (ItF (L.map (pickV xs))) H1
theorem pm_combs {e e2 : Expr} {ta : TA} {p pos : Pos} (hc : X.calm = true) (hg : Gl X "combinations") (hm : X.mg "combinations" = some (.type "itertools.combinations")) (ha : PA X [e, e2] ta)
    (hs : starEach [e, e2] X.env = (false, eval e X.env) :: starEach [e2] X.env := by rfl) (hpl : (backTo pos (starEach [e2] X.env)).any (·.1) = false := by rfl) : PM X "itertools.combinations" (.Call (.Name "combinations" p) [e, e2] [] pos) (iCombs X.K ta) := by
  intro tg pins s σ H R I h
  refine wpAny_Call_Name_kw (ld_glob I hg hm ?_)
  refine PyProof.Rows.callWith_type1 (thn (ha.run pos pins s σ H _ I h) fun us s1 ⟨vs, H1, I1, r1, q1⟩ => ?_) hs hpl
  obtain ⟨a, r, xs, L, ex, h0, h1, src, hL, q⟩ := q1
  subst ex
  cases r1 with
  | cons ra rr =>
  cases rr with
  | cons rb rr =>
  cases rr
  cases ra
  obtain ⟨t, rfl⟩ := rb
  have hh : X.A.in1.in1.handled = none := I1.ok.hd hc
  -- behind the items
  have fin : ∀ (its : List Value) (h2 : Heap) (tk : Nat), Vals xs its → xs.length ≤ sizeLine → (∀ b o, s1.heap.get? b = some o → h2.get? b = some o) → its.length ≤ sizeLine ∧ ∀ h', h'.get? h2.objs.size = some { cls := .type "tuple", data := .seq its.toArray } → IsC h' (h2.objs.size + 1) h2.objs.size (if r.toNat > its.length then 2 else 0) .none (List.range r.toNat) → (∀ b o, h2.get? b = some o → h'.get? b = some o) →
      PMP X pins σ tg "itertools.combinations" R (.ref (h2.objs.size + 1)) { s1 with heap := h', toks := tk } := by
    intro its h2 tk rv hz hk
    have hl : xs.length = its.length := rv.length
    refine ⟨by omega, fun h' a1 a2 a3 => ?_⟩
    have I3 : Inv X pins σ H1 { s1 with heap := h2, toks := tk } := I1.kept hk
    have I2 : Inv X pins σ H1 { s1 with heap := h', toks := tk } := I1.kept fun b o e => a3 b o (hk b o e)
    have ff : ∀ b, h2.objs.size ≤ b → FpOk X pins H1 b := fun b hb => I3.fpOk hb (I3.hok.fresh hb)
    refine ⟨h2.objs.size + 1, [h2.objs.size + 1, h2.objs.size], _, _, H1, rfl, I2, turn_c (r := r.toNat) (L := L) (it := h2.objs.size + 1) (P := h2.objs.size) (its := its) rv (by omega) (by rw [← hl]; exact hL), ⟨Nat.succ_ne_self _, ⟨_, _, a1, rfl⟩, a2⟩, fun b hb => ?_, fun i h st => ?_, q⟩
    rotate_left
    · obtain ⟨_, _, st⟩ := st
      cases i with
      | zero => exact ⟨_, st, rfl⟩
      | succ i =>
        obtain ⟨_, _, _, st⟩ := st
        exact ⟨_, st, rfl⟩
    have e' : b = h2.objs.size + 1 ∨ b = h2.objs.size := by simpa using hb
    rcases e' with z | z
    · rw [z]; exact ff _ (Nat.le_succ _)
    · rw [z]; exact ff _ (Nat.le_refl _)
  refine call_c h0 h1 fun prog w => ?_
  rcases src with ⟨j, hr, ⟨b1, b2, b3⟩, rfl⟩ | hl | ht
  · obtain ⟨t1, t2, t3, hr⟩ := I1.hok _ _ hr
    refine collect_range (n := (j - 0).toNat) hh (show IsRange s1.heap a 0 j 1 t1 t2 t3 from hr) (small_one (by decide) (by decide) b1 b2) (rangeSize_nat 0 j) b3 fun h' tk acc hk hi => ?_
    exact fin acc.toList h' tk (vals_rg hi) (by rw [rgV_length, sizeLine_eq]; omega) hk
  · obtain ⟨its, rv, ⟨o, n, ho, hcl, hdn, hdt⟩, hz⟩ := I1.list hl
    have hz2 : its.toArray.size ≤ sizeLine := by
      have := rv.length
      simp
      omega
    refine wpAny_collect_seq a (.inl rfl) ho hcl hdt (fun h' hk => ?_) hz2
    exact fin its.toArray.toList h' s1.toks (by simpa using rv) hz hk
  · obtain ⟨its, rv, ⟨o, ho, hcl, n, hdt⟩, hz⟩ := I1.tuple ht
    have hz2 : its.toArray.size ≤ sizeLine := by
      have := rv.length
      simp
      omega
    refine wpAny_collect_seq a (.inr rfl) ho hcl hdt (fun h' hk => ?_) hz2
    exact fin its.toArray.toList h' s1.toks (by simpa using rv) hz hk
end
end Ck
set_option Elab.async false
set_option linter.all false
set_option maxRecDepth 100000
set_option maxHeartbeats 4000000
namespace Dv
open PySem PySem.Spec PyProof.Rows L2 Gq Ck
theorem ite_opt {α : Type} {P : Prop} [Decidable P] {a : Option α} {b : α} (h : (if P then a else none) = some b) : P ∧ a = some b := by
  split at h
  · exact ⟨‹_›, h⟩
  · cases h
def pickD (l : List PD) (ix : List Nat) : List PD := ix.map fun j => l.getD j .none
theorem TrA.pick {K : PySem.W.Frag} {H : Hp} {xs : List V} {l : List PD} (t : TrA K H xs l) : ∀ ix : List Nat, TrA K H (pickV xs ix) (pickD l ix)
  | [] => .nil
  | j :: ix => by
    refine .cons ?_ (TrA.pick t ix)
    show Tr K H (xs.getD j .non) (l.getD j .none)
    have hl := t.len
    by_cases hj : j < xs.length
    · obtain ⟨d, hd, td⟩ := t.getV (List.getElem?_eq_getElem hj)
      have e1 : xs.getD j .non = xs[j] := by simp [hj]
      have e2 : l.getD j .none = d := by simp [List.getD, hd]
      rw [e1, e2]
      exact td
    · have e1 : xs.getD j .non = .non := by simp [Nat.le_of_not_lt hj]
      have e2 : l.getD j .none = PyData.none := by simp [show l.length ≤ j by omega]
      rw [e1, e2]
      exact .non
theorem itf_ok {K : PySem.W.Frag} {H : Hp} {xs : List V} {l : List PD} {L : List (List Nat)} (t : TrA K H xs l) : ItOk K (ItF (L.map (pickV xs))) (L.map fun ix => .tuple (pickD l ix)) H := by
  refine ⟨fun i H' k hi => ?_, fun i H' k hi => ?_, fun i H' x H'' k hi y => ?_⟩
  · show i < (L.map (pickV xs)).length
    rw [List.length_map] at hi ⊢
    exact hi
  · show (L.map (pickV xs)).length ≤ i
    rw [List.length_map] at hi ⊢
    exact hi
  · obtain ⟨p, o, ys, rfl, hn, hdi, hy, rfl⟩ := y
    rw [List.getElem?_map] at hy
    obtain ⟨ix, e1, rfl⟩ := omap hy
    have ext : ∀ b u, H' b = some u → upd H' p (.frz o (.tup (pickV xs ix))) b = some u := fun b u e => by rw [upd_ne (ne_of_none e hn)]; exact e
    refine ⟨ext, _, by rw [List.getElem?_map, e1]; rfl, .tup (.inl ⟨o, upd_same, hdi⟩) ?_⟩
    exact ((t.keep k).keep ⟨fun b xs e => ext _ _ e, fun b o u e => ext _ _ e⟩).pick ix
section
variable {X : Cx} {T : List Addr} {tg a e k : Expr} {f1 f2 : Ev} {pos p p2 q : Pos}
def iCmbR (f1 f2 : Ev) : Ea := fun ρ => (f1 ρ).bind fun p1 => match p1.1 with
  | .val (.int j) => (f2 p1.2).bind fun p2 => match p2.1 with
    | .val (.int r) => if (-(2 ^ 62) ≤ j ∧ j < 2 ^ 62 ∧ (j - 0).toNat ≤ 2 ^ 24) ∧ 0 ≤ r ∧ r ≤ 1048576 then (rowsC (j - 0).toNat r.toNat).map fun L => (L.map fun ix => .tuple (pickD (rngL 0 (j - 0).toNat) ix), p2.2) else none
    | _ => none
  | _ => none
end
end Dv
set_option Elab.async false
set_option linter.all false
set_option maxRecDepth 100000
set_option maxHeartbeats 4000000
namespace Dv
open PySem PySem.Spec PyProof.Rows L2 Gq
section
variable {X : Cx} {T : List Addr} {e a b : Expr} {f f1 f2 : Ev} {pos p p2 q : Pos}
def fListR2 (f1 f2 : Ev) : Ev := fun ρ => (f1 ρ).bind fun p => match p.1 with
  | .val (.int i) => (f2 p.2).bind fun q => match q.1 with
    | .val (.int j) => (fRg i j).map fun r => (r, q.2)
    | _ => none
  | _ => none
theorem s_listR2 (hc : X.calm = true) (gl : Gl X "list") (ml : X.mg "list" = none) (gr : Gl X "range") (mr : X.mg "range" = none) (h1 : SE X T a f1) (h2 : SE X T b f2)
    (na : starEach [a, b] X.env = (false, eval a X.env) :: starEach [b] X.env := by rfl) (nb : starEach [b] X.env = (false, eval b X.env) :: starEach [] X.env := by rfl) (hp : (backTo q (starEach [b] X.env)).any (·.1) = false := by rfl)
    (nc : starEach [.Call (.Name "range" p2) [a, b] [] q] X.env = (false, eval (.Call (.Name "range" p2) [a, b] [] q) X.env) :: starEach [] X.env := by rfl) : SE X T (.Call (.Name "list" p) [.Call (.Name "range" p2) [a, b] [] q] [] pos) (fListR2 f1 f2) := by
  refine PE.imp (pe_listRg hc gl ml (prg_2 gr mr h1 h2 na nb hp) nc) fun σ H Q ⟨ρ, r, ρ', R, e, qq⟩ => ?_
  obtain ⟨⟨r1, ρ1⟩, e1, e2⟩ := obind e
  refine ⟨ρ, r1, ρ1, R, e1, fun v H1 P => ?_⟩
  cases r1 with
  | slot i => simp at e2
  | new l => simp at e2
  | val d =>
    cases d <;> first | (simp at e2; done) | skip
    case int i =>
      obtain ⟨⟨r2, ρ2⟩, e3, e4⟩ := obind e2
      have res : Tr X.K H1 v (.int i) := P.res
      cases res
      refine ⟨ρ1, r2, ρ2, P.rep, e3, fun v2 H2 P2 => ?_⟩
      cases r2 with
      | slot i => simp at e4
      | new l => simp at e4
      | val d2 =>
        cases d2 <;> first | (simp at e4; done) | skip
        case int j =>
          obtain ⟨rr, e5, e6⟩ := omap e4
          cases e6
          obtain ⟨hok, rfl⟩ := ite_some e5
          have res2 : Tr X.K H2 v2 (.int j) := P2.res
          cases res2
          exact ⟨i, j, rfl, rfl, hok, fun p hp => qq _ _ ((P.toT.then P2).op (nr_new hp (rgV_tr i j)))⟩
def KTup (K : PySem.W.Frag) (a : Addr) (ns : List Int) : Prop := ∃ (o : Obj) (its : Array Value) (n : Nat), K.lookup a = some o ∧ o.cls = .type "tuple" ∧ o.dict = none ∧ o.data = .seq its n ∧ its.size ≤ sizeLine ∧ Vals (ns.map V.int) its.toList
theorem trA_ints {K : PySem.W.Frag} {H : Hp} : ∀ ns : List Int, TrA K H (ns.map V.int) (ns.map PyData.int)
  | [] => .nil
  | _ :: ns => .cons (.int _) (trA_ints ns)
theorem s_globT {x : Str} {ad : Addr} {ns : List Int} (hg : Gl X x) (hm : X.mg x = some (.ref ad) ∧ KTup X.K ad ns) (hd : (x == ("__debug__" : Str)) = false := by decide) : SE X T (.Name x pos) (fCst (.tuple (ns.map PyData.int))) :=
  s_cst (pe_glob (v := .ref ad) hg hm.1 rfl hd) fun _ => .tup (.inr hm.2) (trA_ints ns)
theorem ktup2 {K : PySem.W.Frag} {a : Addr} {i j : Int} {t u : Tok} {n : Nat} {sl : Array (Option Value)} (h : K.lookup a = some ⟨.type "tuple", none, .seq #[.int i t, .int j u] n, sl⟩) : KTup K a [i, j] :=
  ⟨_, _, _, h, rfl, rfl, rfl, by show 2 ≤ sizeLine; decide, .cons ⟨t, rfl⟩ (.cons ⟨u, rfl⟩ .nil)⟩
end
end Dv
set_option Elab.async false
set_option linter.all false
set_option maxRecDepth 100000
set_option maxHeartbeats 4000000
namespace Ck
open PySem PySem.Spec PyProof.Rows L2 Dv Gq
open Sem (wp)
end Ck
namespace Dv
open PySem PySem.Spec PyProof.Rows L2 Gq Ck
end Dv
set_option Elab.async false
set_option linter.all false
set_option maxRecDepth 100000
set_option maxHeartbeats 4000000
namespace Ck
open PySem PySem.Spec PyProof.Rows L2 Dv Gq
open Sem (wp)
def atA (X : Cx) (A : Around) : Cx := { X with A := A }
section
variable {X : Cx} {pins : List (Addr × Obj)} {σ : L2.St} {H : Hp} {s : Shared} {A : Around}
theorem inv_at (hf : A.frames = X.A.frames) (hh : A.handled = none) (I : Inv X pins σ H s) : Inv (atA X A) pins σ H s :=
  ⟨⟨I.ok.mod, I.ok.kind, I.ok.glob, I.ok.blt, I.ok.above, I.ok.inj, I.ok.has, I.ok.cab, fun _ => hh, hf.trans I.ok.frames, I.ok.stk, I.ok.exf, I.ok.bs, I.ok.bsz, I.ok.noex, I.ok.exfs, I.ok.funs, I.ok.frf⟩, I.os, I.bare, I.base, I.loc, I.cell, I.free, I.freeC, I.pin, I.hok, I.len⟩
theorem inv_un (ok : X.Ok) (I : Inv (atA X A) pins σ H s) : Inv X pins σ H s := ⟨ok, I.os, I.bare, I.base, I.loc, I.cell, I.free, I.freeC, I.pin, I.hok, I.len⟩
end
def StepL (D : Addr) (J : It) (W : Nat → Nat → Hp → Prop) (Fin : Hp → Prop) : Prop := ∀ i m H2, W i m H2 → ∃ acc, H2 D = some (.lst acc) ∧
  ((J.stop i H2 ∧ Fin H2) ∨ (J.go i H2 ∧ acc.length < sizeLine ∧ ∀ x H3, J.yld i H2 x H3 → H3 D = some (.lst acc) ∧ ∃ m', m' < m ∧ W (i + 1) m' (upd H3 D (.lst (acc ++ [x])))))
section
variable {X : Cx} {pins : List (Addr × Obj)} {σ : L2.St} {A : Around} {J : It} {fp : List Addr} {it D : Addr} {tn : Nat → Heap → Prop} {W : Nat → Nat → Hp → Prop} {Fin : Hp → Prop} {z : Str} {zp : Pos} {res : Value} {R : Result → Shared → Prop}
theorem it_loop (T : Turn X.prog X.w X.K (.Name z zp) J fp it tn) (hc : X.calm = true) (hf : A.in1.frames = X.A.frames) (hh : A.in1.handled = none) (hD : D ∉ fp) (st : StepL D J W Fin)
    (hR : ∀ H' s', Fin H' → Inv X pins σ H' s' → R (.ok (.ret res)) s') :
    ∀ (m i : Nat) (H : Hp) (s : Shared), W i m H → Inv X pins σ H s → tn i s.heap → (∀ b ∈ fp, FpOk X pins H b) → codeAny (model X.prog X.w) A (.builtin "list.extend.loop" ⟨[.ref D, .ref it, res], []⟩) R s := by
  intro m
  induction m using Nat.strongRecOn with
  | ind m ih =>
    intro i H s hw I ht hfp
    have I' := inv_at (A := A.in1) hf hh I
    have hok := I.ok
    refine codeAny_builtin F.entry_extend_loop ?_
    rw [Around.under_plainId F.plain_extend_loop _]
    show wpAny _ A.in1 (pyNext (.ref it) >>= _) _ _ s
    obtain ⟨acc, hDa, hw⟩ := st i m H hw
    rcases hw with ⟨hs, fin⟩ | ⟨hg, hlen, turn⟩
    · refine wpAny_bind (wpAny_mono (T.done (atA X A.in1) rfl rfl rfl hc i pins s σ H _ I' (fun b hb => hfp b hb) ht hs) (fun r s1 q => ?_) fun _ _ z => z)
      obtain ⟨rfl, I1⟩ := q
      exact wpAny_pure (hR H s1 fin (inv_un hok I1))
    · refine wpAny_bind (wpAny_mono (T.item (atA X A.in1) rfl rfl rfl hc i pins s σ H _ I' (fun b hb => hfp b hb) ht hg) (fun r s1 q => ?_) fun _ _ z => z)
      obtain ⟨u, rfl, q⟩ := q
      show wpAny _ A.in1 ((letOwnedTupleGo (.Name z zp) (.ref it) u) >>= fun _ => updateSeq D (·.push u) >>= _) _ _ s1
      refine wpAny_bind (wpAny_mono q (fun _ s2 q => ?_) fun _ _ z => z)
      obtain ⟨x, H', I2, rx, y, ht2, hn2⟩ := q
      obtain ⟨hD3, m', hm', hw'⟩ := turn x H' y
      have I3 : Inv X pins σ H' s2 := inv_un hok I2
      obtain ⟨zl, its, n, rv, e⟩ := I3.hok D _ hD3
      have hsz : its.toArray.size = acc.length := by rw [rv.length]; simp
      refine wpAny_bind ?_
      refine wpAny_updateSeq e rfl (wpAny_pure ⟨plainId_quiet F.plain_extend_loop _, ?_⟩) (by rw [hsz]; omega) (by show (its.toArray.push u).size ≤ sizeLine + 1; rw [Array.size_push, hsz]; omega)
      have e2 := Heap.get?_update_self (Obj.mapSeq (·.push u)) e rfl
      have rv2 : Vals (acc ++ [x]) (its ++ [u]) := rv.append (.cons rx .nil)
      have I4 := I3.lset (its' := its ++ [u]) (f := fun a => a.push u) (t' := s2.toks) hD3 e (by simp) rv2 (by rw [List.length_append]; show acc.length + 1 ≤ sizeLine; omega)
      have nD : ∀ b ∈ fp, b ≠ D := fun b hb z => hD (z ▸ hb)
      refine ih m' hm' (i + 1) _ _ hw' I4 (T.keep _ _ _ ht2 fun b hb o q => (Heap.get?_update_other _ _ (Ne.symm (nD b hb))).trans q) fun b hb => ?_
      obtain ⟨a1, a2⟩ := hfp b hb
      exact ⟨by rw [upd_ne (nD b hb)]; exact hn2 b hb, a2⟩
end
def tLstM (wi : TI) : TE := fun σ H Q => wi σ H fun J H1 => ∀ D, H1 D = none → ∃ W, (∃ m, W 0 m (upd H1 D (.lst []))) ∧ StepL D J W (fun H' => Q (.ref D) H')
theorem pe_listM {X : Cx} {T : String} {iter : Expr} {wi : TI} {p pos : Pos} (hc : X.calm = true) (hg : Gl X "list") (hm : X.mg "list" = none) (hM : PM X T iter wi) (hl : typeLookup (.type T) "__len__" = pure none) (hn0 : typeLookup (.type T) "__length_hint__" = pure none)
    (h2 : (Value.type T == Value.type "list") = false) (h3 : (Value.type T == Value.type "tuple") = false) (na : starEach [iter] X.env = (false, eval iter X.env) :: starEach [] X.env := by rfl) : PE X (.Call (.Name "list" p) [iter] [] pos) (tLstM wi) := by
  refine ⟨fun pins s σ H Q I h => ?_⟩
  refine Call_ (ld_blt I hg hm boot_list (PyProof.Rows.callWith_type1 (args_cons (thn (hM (.Name "x" pos) pins s σ H _ I h) fun x s1 ⟨it, fp, tn, J, H1, ex, I1, T1, st, hf, hcl, q⟩ => args_nil ?_) na) na))
  subst ex
  have hh : X.A.handled = none := I1.ok.hd hc
  refine callType_codes (Q₁ := fun obj s₂ => obj = .ref s1.heap.objs.size ∧ s₂ = { s1 with heap := s1.heap.push { cls := .type "list", data := .seq #[] } }) F.called_list (F.typeCall_list_1 _) F.entry_list_init (code_list_new _ ⟨rfl, rfl⟩) fun obj s₂ h₂ => ?_
  obtain ⟨rfl, rfl⟩ := h₂
  have hS : (s1.heap.push { cls := .type "list", data := .seq #[] }).get? s1.heap.objs.size = some { cls := .type "list", data := .seq #[] } := Heap.get?_push_size _ rfl
  have hD : s1.heap.objs.size ∉ fp := fun hb => by
    obtain ⟨o, e, _⟩ := T1.obj 0 s1.heap st _ hb
    exact Nat.lt_irrefl _ (Heap.lt_size e)
  have hIt : s1.heap.objs.size ≠ it := fun e => hD (e ▸ T1.mem)
  have hnD : H1 s1.heap.objs.size = none := I1.hok.fresh (Nat.le_refl _)
  obtain ⟨W, ⟨m0, w0⟩, step⟩ := q _ hnD
  refine ⟨⟨_, hS, rfl⟩, F.args_list_init_2 _ _, ?_⟩
  -- what stands when the loop begins
  have key : ∀ (h' : Heap) (c tk : Nat), h'.get? s1.heap.objs.size = some { cls := .type "list", data := .seq #[] c } → (∀ b o, s1.heap.get? b = some o → h'.get? b = some o) →
      Inv X pins σ (upd H1 s1.heap.objs.size (.lst [])) { s1 with heap := h', toks := tk } ∧ tn 0 h' ∧ ∀ b ∈ fp, FpOk X pins (upd H1 s1.heap.objs.size (.lst [])) b := fun h' c tk e k => by
    refine ⟨I1.laid (t' := tk) k (Nat.le_refl _) ⟨by show 0 ≤ sizeLine; exact Nat.zero_le _, [], c, .nil, e⟩, T1.keep _ _ _ st fun b _ o q => k b o q, fun b hb => ?_⟩
    obtain ⟨a1, a2⟩ := hf b hb
    exact ⟨by rw [upd_ne (fun z : b = s1.heap.objs.size => hD (by rw [← z]; exact hb))]; exact a1, a2⟩
  have ty : ∀ h' : Heap, (∀ b o, s1.heap.get? b = some o → h'.get? b = some o) → ∃ o, h'.get? it = some o ∧ o.cls = .type T := fun h' k => by
    obtain ⟨o, e, z⟩ := hcl 0 s1.heap st
    exact ⟨o, k _ _ e, z⟩
  have kp : ∀ b o, s1.heap.get? b = some o → (s1.heap.push { cls := .type "list", data := .seq #[] }).get? b = some o := fun b o e => Heap.get?_push_of_some _ e
  show wpAny _ _ (do let old ← Builtin.List.listItems (.ref s1.heap.objs.size); Builtin.List.listUpdate (.ref s1.heap.objs.size) (fun _ => #[]); letGo old.toList.reverse; Builtin.List.listExtendWith (.ref s1.heap.objs.size) (.ref it) .none) _ _ _
  refine wpAny_bind ?_
  unfold Builtin.List.listItems
  refine wpAny_bind (wpAny_seqItems hS rfl (wpAny_pure ?_))
  show wpAny _ _ (updateSeq s1.heap.objs.size (fun _ => #[]) >>= fun _ => letGo (#[] : Array Value).toList.reverse >>= fun _ => Builtin.List.listExtendWith (.ref s1.heap.objs.size) (.ref it) .none) _ _ _
  refine wpAny_bind (wpAny_updateSeq hS rfl ?_)
  have e1 := Heap.get?_update_self (Obj.mapSeq (fun _ => (#[] : Array Value))) hS rfl
  have k1 : ∀ b o, s1.heap.get? b = some o → ((s1.heap.push { cls := .type "list", data := .seq #[] }).update s1.heap.objs.size (Obj.mapSeq (fun _ => (#[] : Array Value)))).get? b = some o := fun b o e =>
    (Heap.get?_update_other _ _ (Ne.symm (Nat.ne_of_lt (Heap.lt_size e)))).trans (kp b o e)
  refine wpAny_bind (wpAny_letGo ?_)
  unfold Builtin.List.listExtendWith
  obtain ⟨o1, g1, g2⟩ := ty _ k1
  refine wpAny_bind (wpAny_typeOf ⟨o1, g1, g2⟩ ?_)
  have a1 : Builtin.List.listSameRef (.ref s1.heap.objs.size) (.ref it) = false := by simp [Builtin.List.listSameRef, hIt]
  simp only [a1, h2, h3, Bool.or_false, Bool.false_eq_true, if_false]
  obtain ⟨I2, t2, f2⟩ := key _ _ s1.toks e1 k1
  refine wpAny_bind (T1.self _ 0 _ _ _ t2 ?_)
  refine wpAny_bind (wpAny_holding ?_)
  unfold Builtin.List.listLengthHint
  refine wpAny_bind (wpAny_specialOf ⟨o1, g1, g2⟩ hl ?_)
  show wpAny _ _ (specialOf (Value.ref it) (Str.ofString "__length_hint__") >>= _) _ _ _
  refine wpAny_bind (wpAny_specialOf ⟨o1, g1, g2⟩ hn0 ?_)
  refine wpAny_pure ?_
  show wpAny _ _ (rule "list.extend.makes-room" >>= fun _ => Builtin.List.listTouch (.ref s1.heap.objs.size) >>= fun _ => again (.builtin "list.extend.loop" ⟨[.ref s1.heap.objs.size, .ref it, .none], []⟩)) _ _ _
  refine wpAny_bind (wpAny_rule ?_)
  refine wpAny_bind ?_
  show wpAny _ _ (updateSeq s1.heap.objs.size (·.push .none) >>= fun _ => updateSeq s1.heap.objs.size (·.pop)) _ _ _
  refine wpAny_bind (wpAny_updateSeq e1 rfl ?_)
  have e2 := Heap.get?_update_self (Obj.mapSeq (·.push Value.none)) e1 rfl
  refine wpAny_updateSeq e2 rfl ?_
  have e3 := Heap.get?_update_self (Obj.mapSeq (·.pop)) e2 rfl
  obtain ⟨I3, t3, f3⟩ := key _ _ s1.toks e3 fun b o e => by
    have z := Ne.symm (Nat.ne_of_lt (Heap.lt_size e))
    exact (Heap.get?_update_other _ _ z).trans ((Heap.get?_update_other _ _ z).trans (k1 b o e))
  refine wpAny_pure ⟨plainId_quiet F.plain_extend_loop _, ?_⟩
  refine it_loop (A := X.A.in1) T1 hc rfl hh hD step (fun H' s' q I' => ?_) m0 0 _ _ w0 I3 t3 f3
  exact ⟨rfl, .ref s1.heap.objs.size, H', I', rfl, q⟩
end Ck
set_option Elab.async false
set_option linter.all false
set_option maxRecDepth 100000
set_option maxHeartbeats 4000000
namespace Dv
open PySem PySem.Spec PyProof.Rows L2 Gq Ck
def SM (X : Cx) (T : List Addr) (ty : String) (e : Expr) (f : Ea) : Prop := PM X ty e (tI X.K T f)
theorem PM.imp {X : Cx} {ty : String} {e : Expr} {t t' : TI} (h : PM X ty e t') (w : ∀ σ H R, t σ H R → t' σ H R) : PM X ty e t := fun tg pins s σ H R I q => h tg pins s σ H R I (w σ H R q)
theorem SM.si {X : Cx} {T : List Addr} {ty : String} {tg e : Expr} {f : Ea} (h : SM X T ty e f) : SI X T tg e f := PM.pi h
section
variable {X : Cx} {T : List Addr} {a k it : Expr} {f1 f2 : Ev} {fi : Ea} {pos p p2 q : Pos} {ty : String}
def fListI (fi : Ea) : Ev := fun ρ => (fi ρ).bind fun q => if q.1.length ≤ 16777216 then some (.new q.1, q.2) else none
theorem s_listM (hc : X.calm = true) (hg : Gl X "list") (hm : X.mg "list" = none) (h : SM X T ty it fi) (hl : typeLookup (.type ty) "__len__" = pure none) (hn0 : typeLookup (.type ty) "__length_hint__" = pure none)
    (h2 : (Value.type ty == Value.type "list") = false) (h3 : (Value.type ty == Value.type "tuple") = false) (na : starEach [it] X.env = (false, eval it X.env) :: starEach [] X.env := by rfl) : SE X T (.Call (.Name "list" p) [it] [] pos) (fListI fi) := by
  refine PE.imp (pe_listM hc hg hm h hl hn0 h2 h3 na) fun σ H Q ⟨ρ, r, ρ', R, e, q⟩ => ?_
  obtain ⟨⟨ds, ρ1⟩, e1, e⟩ := obind e
  obtain ⟨hlen, e⟩ := ite_opt e
  cases e
  have hsl := sizeLine_eq
  have hlen : ds.length ≤ 16777216 := hlen
  refine ⟨ρ, ds, ρ1, R, e1, fun J H1 P1 I D hD => ?_⟩
  have h0 : H D = none := P1.dom hD
  have hle : ∀ b o, H1 b = some o → upd H1 D (.lst []) b = some o := fun b o e => by rw [upd_ne (ne_of_none e hD)]; exact e
  have nOw : ¬ OwA ρ1 σ D := fun z => by
    obtain ⟨xs, hx⟩ := P1.rep.ow z
    rw [hD] at hx; cases hx
  refine ⟨fun i m H2 => m = ds.length - i ∧ i ≤ ds.length ∧ PostT X.K T ρ σ H ρ1 H2 ∧ KeepH H1 H2 ∧ ∃ acc, H2 D = some (.lst acc) ∧ TrA X.K H2 acc (ds.take i), ⟨ds.length, rfl, Nat.zero_le _, P1.ext hle, keep_ext hle, [], upd_same, by rw [List.take_zero]; exact .nil⟩, ?_⟩
  rintro i m H2 ⟨rfl, hi, P2, k2, acc, hDa, t2⟩
  refine ⟨acc, hDa, ?_⟩
  have la : acc.length = i := by rw [t2.len, List.length_take]; omega
  by_cases hlt : i < ds.length
  · refine .inr ⟨I.go i H2 k2 hlt, by omega, fun x H3 y => ?_⟩
    obtain ⟨ext, d, ed, t⟩ := I.yld i H2 x H3 k2 hlt y
    have hD3 : H3 D = some (.lst acc) := ext _ _ hDa
    have k3 : KeepH H3 (upd H3 D (.lst (acc ++ [x]))) := KeepH.lst hD3
    refine ⟨hD3, ds.length - (i + 1), by omega, rfl, hlt, (P2.ext ext).upd hD3 nOw h0, (k2.trans (keep_ext ext)).trans k3, acc ++ [x], upd_same, ?_⟩
    have e2 : ds.take (i + 1) = ds.take i ++ [d] := by rw [List.take_succ, ed]; rfl
    rw [e2]
    exact ((t2.keep (keep_ext ext)).append (.cons t .nil)).keep k3
  · have e2 : i = ds.length := by omega
    refine .inl ⟨I.stop i H2 k2 (by omega), q _ _ (P2.toE ⟨D, acc, rfl, hDa, ?_, nOw, h0⟩)⟩
    rw [e2, List.take_length] at t2
    exact t2
theorem sm_cmbR (hc : X.calm = true) (gc : Gl X "combinations") (mc : X.mg "combinations" = some (.type "itertools.combinations")) (gr : Gl X "range") (mr : X.mg "range" = none) (h1 : SE X T a f1) (h2 : SE X T k f2)
    (na : starEach [a] X.env = (false, eval a X.env) :: starEach [] X.env := by rfl) (nk : starEach [k] X.env = (false, eval k X.env) :: starEach [] X.env := by rfl)
    (hs : starEach [.Call (.Name "range" p2) [a] [] q, k] X.env = (false, eval (.Call (.Name "range" p2) [a] [] q) X.env) :: starEach [k] X.env := by rfl) (hpl : (backTo pos (starEach [k] X.env)).any (·.1) = false := by rfl) :
    SM X T "itertools.combinations" (.Call (.Name "combinations" p) [.Call (.Name "range" p2) [a] [] q, k] [] pos) (iCmbR f1 f2) := by
  refine PM.imp (pm_combs hc gc mc (pa_cons (pe_callTy cr_range1 gr mr boot_range (pa_cons h1 pa_nil na) (by decide) (by decide) na (by rfl)) (pa_cons h2 pa_nil nk) hs) hs hpl) fun σ H R ⟨ρ, ds, ρ', Rp, e, qq⟩ => ?_
  obtain ⟨⟨r1, ρ1⟩, e1, e⟩ := obind e
  refine ⟨ρ, r1, ρ1, Rp, e1, fun v H1 P1 => ?_⟩
  cases r1 with
  | slot i => simp at e
  | new l => simp at e
  | val d =>
    cases d <;> first | (simp at e; done) | skip
    case int j =>
      obtain ⟨⟨r2, ρ2⟩, e2, e⟩ := obind e
      have res : Tr X.K H1 v (.int j) := P1.res
      cases res
      refine ⟨j, rfl, fun pa hpa => ?_⟩
      have ext : ∀ b u, H1 b = some u → upd H1 pa (.rng 0 j) b = some u := fun b u e => by rw [upd_ne (ne_of_none e hpa)]; exact e
      have P1' : PostT X.K T ρ σ H ρ1 (upd H1 pa (.rng 0 j)) := P1.toT.ext ext
      refine ⟨ρ1, r2, ρ2, P1'.rep, e2, fun v2 H2 P2 => ?_⟩
      cases r2 with
      | slot i => simp at e
      | new l => simp at e
      | val d2 =>
        cases d2 <;> first | (simp at e; done) | skip
        case int r =>
          obtain ⟨⟨b1, h0, h1⟩, e⟩ := ite_opt e
          obtain ⟨L, hL, e⟩ := omap e
          cases e
          have res2 : Tr X.K H2 v2 (.int r) := P2.res
          cases res2
          have kp : H2 pa = some (.rng 0 j) := by
            refine P2.fm.keep pa _ upd_same (fun _ z => by cases z) fun z => ?_
            · obtain ⟨ps, q⟩ := P1'.rep.ow z
              rw [upd_same] at q; cases q
          refine ⟨pa, r, rgV 0 j, L, rfl, h0, h1, .inl ⟨j, kp, b1, rfl⟩, by rw [rgV_length]; exact hL, qq _ _ (P1'.trans P2.toT) ?_⟩
          exact itf_ok (rgV_tr 0 j)
end
theorem nolen_cmb : typeLookup (.type "itertools.combinations") "__len__" = pure none := by rw [typeLookup_type, builtinLookup_eq_fast]; kernel_rfl
theorem nohint_cmb : typeLookup (.type "itertools.combinations") "__length_hint__" = pure none := by rw [typeLookup_type, builtinLookup_eq_fast]; kernel_rfl
end Dv
set_option Elab.async false
set_option linter.all false
set_option maxRecDepth 100000
set_option maxHeartbeats 4000000
namespace Ck
open PySem PySem.Spec PyProof.Rows L2 Dv Gq
open Sem (wp)
end Ck
namespace Ck
open PySem PySem.Spec PyProof.Rows L2 Dv Gq
open Sem (wp)
end Ck
namespace Dv
open PySem PySem.Spec PyProof.Rows L2 Gq Ck
end Dv
set_option Elab.async false
set_option linter.all false
set_option maxRecDepth 100000
set_option maxHeartbeats 4000000
namespace Dv
open PySem PySem.Spec PyProof.Rows L2 Gq
end Dv
set_option Elab.async false
set_option linter.all false
set_option maxRecDepth 100000
set_option maxHeartbeats 4000000
namespace Dv
open PySem PySem.Spec PyProof.Rows L2 Gq
end Dv
set_option Elab.async false
set_option linter.all false
set_option maxRecDepth 100000
set_option maxHeartbeats 4000000
namespace Pk
open PySem PySem.Spec Ck
open Sem (wp)
end Pk
set_option Elab.async false
set_option linter.all false
set_option maxRecDepth 100000
set_option maxHeartbeats 4000000
namespace Pk
open PySem PySem.Spec Ck
open Sem (wp)
end Pk
set_option Elab.async false
set_option linter.all false
set_option maxRecDepth 100000
set_option maxHeartbeats 4000000
namespace Pk
open PySem PySem.Spec PyProof.Rows L2 Dv Ck
open Sem (wp)
end Pk
set_option Elab.async false
set_option linter.all false
set_option maxRecDepth 100000
set_option maxHeartbeats 4000000
namespace Pk
open PySem PySem.Spec PyProof.Rows L2 Dv Ck
open Sem (wp)
end Pk
namespace Dv
open PySem PySem.Spec PyProof.Rows L2 Gq Ck Pk
end Dv
set_option Elab.async false
set_option linter.all false
set_option maxRecDepth 100000
set_option maxHeartbeats 4000000
namespace Gq
open PySem PySem.Spec PyProof.Rows L2 GenW
section
variable {X : Cx} {C : Con} {p0 : List (Addr × Obj)} {B0 A : Around} {a : Addr} {gn : Nat}
def miV : Option Int → List V → Option Int
  | a, [] => a
  | none, .int j :: r => miV (some j) r
  | some m, .int j :: r => miV (some (if j < m then j else m)) r
  | a, _ :: r => miV a r
theorem miV_app (a : Option Int) (xs : List V) (j : Int) : miV a (xs ++ [V.int j]) = match miV a xs with | none => some j | some m => some (if j < m then j else m) := by
  induction xs generalizing a with
  | nil => cases a <;> rfl
  | cons v r ih => cases a <;> cases v <;> exact ih _
abbrev miObj (x : Option Int) (t u : Tok) (c : Nat) : Obj := { cls := .type "list", dict := none, data := .seq (match x with | none => #[] | some m => #[.int m t, .int m u]) c, slots := #[] }
theorem mi_loop {R : Result → Shared → Prop} {Fin : List V → Hp → Prop} (K : Cons X C p0 B0 A a gn) (O : Own X C p0) (hip : ∀ p ∈ p0, p.1 ≠ C.S)
    (hCS : C.CS = fun ys o => ∃ t u c, o = miObj (miV none ys) t u c)
    (hU : ∀ i m ys x H, C.U i m ys x H → (∃ i, x = .int i) ∧ ∃ m', m' < m ∧ C.W (i + 1) m' (ys ++ [x]) H) (hD : ∀ ys H, C.Dn ys H → (miV none ys).isSome = true ∧ Fin ys H)
    (hR : ∀ t o ys σ H s' m, miV none ys = some m → Fin ys H → Inv X ((C.S, o) :: p0) σ H s' → R (.ok (.ret (.int m t))) s') :
    ∀ (n : Nat) (s : Shared) (ys : List V) (o : Obj), s.heap.NoLimit → s.heap.IsGen a gn → s.heap.get? C.S = some o → C.CS ys o → GSt X C p0 B0.in1 gn n s →
      codeAny (model X.prog X.w) A (.builtin "min.loop" ⟨[.ref a, .none, .ref C.S], []⟩) R s := by
  have hname : (toString "min" ++ toString ".loop" : String) = "min.loop" := by decide
  intro n
  induction n using Nat.strongRecOn with
  | ind n ih =>
    intro s ys0 o0 hl hga hS0 hc0 hgs
    rw [hCS] at hc0
    obtain ⟨tA, uA, c0, rfl⟩ := hc0
    refine codeAny_builtin F.entry_min_loop ?_
    rw [Around.under_plainId F.plain_min_loop _]
    show wpAny _ A.in1 (seqItems? (.ref C.S) >>= _) _ _ s
    refine wpAny_bind (wpAny_seqItems hS0 rfl ?_)
    show wpAny _ A.in1 (tryCatch (pyNext (.ref a)) _ >>= _) _ _ s
    refine wpAny_bind (wpAny_tryCatch (K.down (next_gq K.hh K.room hl hga hgs (fun o i m ys x v ip σ H s1 h0 hi rx hq hu kap => ?_) fun o ys σ H s1 h0 hd hq => ?_)))
    · obtain ⟨⟨j, rfl⟩, m', hm', hw⟩ := hU i m ys x H hu
      obtain ⟨t, rfl⟩ := rx
      rw [hS0] at h0
      cases h0
      have hcs := hq.1
      rw [hCS] at hcs
      obtain ⟨t1, u1, c1, e1⟩ := hcs
      have hS := hq.at
      have e2 : miV none ys0 = miV none ys := by
        have := congrArg Obj.data e1
        simp only [Data.seq.injEq] at this
        have h3 := this.1
        revert h3
        cases miV none ys0 <;> cases miV none ys <;> intro h3 <;> simp at h3 <;> first | rfl | simp [h3]
      have hpin : ∀ p ∈ X.pn ++ (p0 ++ ip), p.1 ≠ C.S := fun p hp z => by
        rcases List.mem_append.mp hp with hp | hp
        · exact O.pn p hp z
        · rcases List.mem_append.mp hp with hp | hp
          · exact hip p hp z
          · exact hi p hp z
      have val := miV_app none ys j
      have upd1 : ∀ (f : Array Value → Array Value) b u, b ≠ C.S → s1.heap.get? b = some u → (s1.heap.update C.S (Obj.mapSeq f)).get? b = some u := fun f b u hb e => (Heap.get?_update_other _ _ (Ne.symm hb)).trans e
      have go : ∀ (h2 : Heap) (t2 u2 : Tok) (c2 : Nat), (∀ b u, b ≠ C.S → s1.heap.get? b = some u → h2.get? b = some u) → h2.get? C.S = some (miObj (miV none (ys ++ [V.int j])) t2 u2 c2) →
          codeAny (model X.prog X.w) A (.builtin "min.loop" ⟨[.ref a, .none, .ref C.S], []⟩) R { s1 with heap := h2 } := fun h2 t2 u2 c2 hk hS2 => by
        have I' : Inv X ((C.S, miObj (miV none (ys ++ [V.int j])) t2 u2 c2) :: (p0 ++ ip)) σ H { s1 with heap := h2 } := inv_pin (t' := s1.toks) hq.2 (.inr O.new) O.cells hpin hk hS2 (fun v z => by cases z)
        have cs' : C.CS (ys ++ [V.int j]) (miObj (miV none (ys ++ [V.int j])) t2 u2 c2) := by rw [hCS]; exact ⟨t2, u2, c2, rfl⟩
        obtain ⟨n', hn', hgs'⟩ := kap _ _ m' hm' ⟨cs', I'⟩ rfl hw
        exact ih n' hn' _ _ _ I'.nolimit (K.gen_at (C := C) ⟨cs', I'⟩) hS2 cs' hgs'
      rw [e2] at hS
      cases hx : miV none ys with
      | none =>
        rw [hx] at hS val e2
        simp only [e2]
        show wpAny _ A.in1 (updateSeq C.S (fun _ => #[.int j t, .int j t]) >>= _) _ _ _
        refine wpAny_bind ?_
        refine wpAny_updateSeq hS rfl ?_
        rw [hname]
        exact wpAny_pure ⟨plainId_quiet F.plain_min_loop _, go _ t t _ (upd1 _) (by rw [val]; exact Heap.get?_update_self _ hS rfl)⟩
      | some mm =>
        rw [hx] at hS val e2
        dsimp only at val
        simp only [e2]
        show wpAny _ A.in1 (tryCatch (holding [Value.int j t, Value.int j t] (richCompare .Lt (.int j t) (.int mm uA) >>= _)) _ >>= _) _ _ _
        refine wpAny_bind (wpAny_tryCatch (wpAny_holding (wpAny_bind ?_)))
        show wpAny _ _ (compareOp .Lt (.int j t) (.int mm uA)) _ _ _
        refine PyProof.Rows.lt_int ?_
        refine wpAny_bind (wpAny_holding (wpAny_truthy_bool ?_))
        refine wpAny_bind (wpAny_letGo (wpAny_pure ?_))
        by_cases hb : j < mm
        · rw [decide_eq_true hb]
          simp only [if_true]
          rw [if_pos hb] at val
          refine wpAny_bind ?_
          refine wpAny_updateSeq hS rfl (wpAny_bind (wpAny_letGo ?_))
          rw [hname]
          exact wpAny_pure ⟨plainId_quiet F.plain_min_loop _, go _ t t _ (upd1 _) (by rw [val]; exact Heap.get?_update_self _ hS rfl)⟩
        · rw [decide_eq_false hb]
          simp only [Bool.false_eq_true, if_false]
          rw [if_neg hb] at val
          refine wpAny_bind (wpAny_letGo ?_)
          rw [hname]
          exact wpAny_pure ⟨plainId_quiet F.plain_min_loop _, go _ _ _ _ (fun b u _ e => e) (by rw [val]; exact hS)⟩
    · rw [hS0] at h0
      cases h0
      have hcs := hq.1
      rw [hCS] at hcs
      obtain ⟨t1, u1, c1, e1⟩ := hcs
      have hS := hq.at
      have e2 : miV none ys0 = miV none ys := by
        have := congrArg Obj.data e1
        simp only [Data.seq.injEq] at this
        have h3 := this.1
        revert h3
        cases miV none ys0 <;> cases miV none ys <;> intro h3 <;> simp at h3 <;> first | rfl | simp [h3]
      obtain ⟨hd1, hd2⟩ := hD ys H hd
      obtain ⟨mm, hx⟩ := Option.isSome_iff_exists.mp hd1
      rw [hx] at e2
      rw [e2] at hS
      simp only [e2]
      have hpin : ∀ p ∈ X.pn ++ p0, p.1 ≠ C.S := fun p hp z => by
        rcases List.mem_append.mp hp with hp | hp
        · exact O.pn p hp z
        · exact hip p hp z
      show wpAny _ A.in1 (updateSeq C.S (fun _ => #[]) >>= _) _ _ _
      refine wpAny_bind ?_
      refine wpAny_updateSeq hS rfl (wpAny_bind (wpAny_letGo (wpAny_pure ?_)))
      have g := Heap.get?_update_self (Obj.mapSeq fun _ => (#[] : Array Value)) hS rfl
      have I' : Inv X ((C.S, _) :: p0) σ H _ := inv_pin (t' := s1.toks) hq.2 (.inr O.new) O.cells hpin (fun b u hb e => (Heap.get?_update_other _ _ (Ne.symm hb)).trans e) g (fun v z => by cases z)
      exact hR tA _ ys σ H _ mm hx hd2 I'
end
def stMin : List V → V → Hp → (Hp → Prop) → VK → Prop := fun _ y H nx _ => (∃ i, y = .int i) ∧ nx H
def fiMin : List V → Hp → VK → Prop := fun ys H Q => ∃ m, miV none ys = some m ∧ Q (.int m) H
section
variable {X : Cx} {N' : List Str} {scope : Scope} {elt tg iter : Expr} {ifs : List Expr} {gpos p pos : Pos} {g : TG} {tt : TT} {te : TE} {wi : TI} {c P : Addr} {k r : Nat}
theorem pe_minG (hr : Room (r + 1) X.A) (hgl : Gl X "min") (hm : X.mg "min" = none) (hb : bootBuiltins "min" = some (.builtin "min")) (CX : Cdx X P) (S : GScp X scope N') (hk : N'.length = X.N.length + k) (hi : PI X tg iter wi)
    (hg : ∀ cl Ca code s0 H0 fp, PG (gcx X X.A.in4.in1 N' (genEnv scope cl Ca code builtinsNs X.env) s0 H0 fp) tg g) (ht : ∀ cl Ca code s0 H0 fp, PTs (gcx X X.A.in4.in1 N' (genEnv scope cl Ca code builtinsNs X.env) s0 H0 fp) ifs tt)
    (hel : ∀ cl Ca code s0 H0 fp, NxC X P gpos code H0 → PE (gcx X X.A.in4.in1 N' (genEnv scope cl Ca code builtinsNs X.env) s0 H0 fp) elt te)
    (hs : ∀ v, genFold iter X.env v = pure v)
    (he : starEach [.GeneratorExp elt [⟨tg, iter, ifs, 0⟩] scope gpos] X.env = (false, eval (.GeneratorExp elt [⟨tg, iter, ifs, 0⟩] scope gpos) X.env) :: starEach [] X.env := by rfl) :
    PE X (.Call (.Name "min" p) [.GeneratorExp elt [⟨tg, iter, ifs, 0⟩] scope gpos] [] pos) (tGen P k wi g tt te stMin fiMin) := by
  refine ⟨fun pins s σ H Q I h => ?_⟩
  refine wpAny_Call_Name_kw (ld_blt I hgl hm hb ?_)
  refine PyProof.Rows.callWith_builtin1 ?_ he (by rfl)
  rw [he]
  show wpAny _ _ (spliced ((false, eval (.GeneratorExp elt [⟨tg, iter, ifs, 0⟩] scope gpos) X.env) :: backTo pos (starEach [] X.env))) _ _ s
  refine Calls.spliced_cons (gen_made (k := r) hr CX S hi hs I h fun J H1 H2 a s5 code hR hT hNx hM => ?_)
  obtain ⟨s4, cl, Ca, fp, it, tn, gn, p0, I4, hf, T, st, IG, hgens, hgen, hp0, hfs, ⟨og, hog⟩⟩ := hM
  obtain ⟨W, ⟨m0, w0⟩, turn⟩ := hR H2 hT
  refine Calls.spliced_nil ?_
  have hname : (toString "min" ++ toString ".loop" : String) = "min.loop" := by decide
  refine call_function_tree F.kind_min F.plain_min F.entry_min (F.args_min1 _) ?_
  show wpAny _ _ (Builtin.Builtins.bindParams "min" ["key", "default"] 0 ⟨[], []⟩ >>= _) _ _ _
  refine wpAny_bind (wpAny_of_eq (show Builtin.Builtins.bindParams "min" ["key", "default"] 0 ⟨[], []⟩ = pure [none, none] from rfl) ?_)
  have hga : s5.heap.IsGen a gn := hgen s5 fun q hq => (IG.pin q (List.mem_append_right _ hq)).1
  refine wpAny_bind (wpAny_pure ?_)
  refine wpAny_bind (wpAny_pyIter_gen hga ?_)
  refine wpAny_bind (wpAny_newObj_type ?_)
  rw [hname]
  let C0 : Con := { S := s5.heap.objs.size, CS := fun ys o => ∃ t u c, o = miObj (miV none ys) t u c, W := W, U := fun i m ys y H5 => stMin ys y H5 (fun H6 => ∃ m', m' < m ∧ W (i + 1) m' (ys ++ [y]) H6) Q, Dn := fun ys H => fiMin ys H Q }
  have hSfp : C0.S ∉ fp := fun hb => Nat.lt_irrefl _ (hfs _ hb)
  have K : Cons (gcx X X.A.in4.in1 N' (genEnv scope cl Ca code builtinsNs X.env) s4 H2 fp) C0 p0 X.A.in4 X.A a gn := ⟨hr.hd, by have := hr.dp; show X.A.depth < _; omega, fun h => wpAny_of_in1 (wpAny_of_in1 (wpAny_of_in1 h)), hgen⟩
  have kp1 : ∀ b o, s5.heap.get? b = some o → (s5.heap.push (miObj none 0 0 0)).get? b = some o := fun b o e => Heap.get?_push_of_some _ e
  have IS := inv_addpin (t' := s5.toks) IG kp1 (Heap.get?_push_size _ rfl) (Nat.le_refl _) (fun v z => by cases z)
  have hgs := gst_begin (C := C0) (σ := σ) (g := g) (tt := tt) (te := te) S.co (fun b hb => (hf b hb).1) T (T.keep _ _ _ st fun b hb o e => kp1 b o e) IS
    ⟨0, 0, 0, rfl⟩ hgens hp0 hSfp w0 (by
      intro i m ys H hw
      rw [σG_eq hk]
      exact turn i m ys H hw) (hg _ _ _ _ _ _) (ht _ _ _ _ _ _) (hel _ _ _ _ _ _ hNx)
  have own : Own (gcx X X.A.in4.in1 N' (genEnv scope cl Ca code builtinsNs X.env) s4 H2 fp) C0 p0 := ⟨IG.sz, fun x c e z => by
    obtain ⟨v, q⟩ := IG.cell x c e
    have q2 : c < s5.heap.objs.size := q.lt
    rw [show c = s5.heap.objs.size from z] at q2
    exact Nat.lt_irrefl _ q2, fun q hq => absurd hq (by simp [gcx])⟩
  refine wpAny_pure ⟨plainId_quiet F.plain_min_loop _, mi_loop (Fin := fun ys H => fiMin ys H Q) K own (fun q hq z => ?_) rfl (fun i m ys x H h => h) (fun ys H h => ⟨by obtain ⟨m, e, _⟩ := h; rw [e]; rfl, h⟩) (fun t o ys σ' H' s' m hm hq hG => ?_) (m0 + 1) _ [] _ IS.nolimit (hga.keeps kp1) (Heap.get?_push_size _ rfl) ⟨0, 0, 0, rfl⟩ hgs⟩
  · have := Heap.lt_size (IG.pin q (List.mem_append_right _ hq)).1
    rw [show q.1 = s5.heap.objs.size from z] at this
    exact Nat.lt_irrefl _ this
  · obtain ⟨m2, e, q⟩ := hq
    rw [hm] at e
    cases e
    exact ⟨.int m, H', gen_back I4 hf hG, ⟨t, rfl⟩, q⟩
end
end Gq
set_option Elab.async false
set_option linter.all false
set_option maxRecDepth 100000
set_option maxHeartbeats 4000000
namespace Dv
open PySem PySem.Spec PyProof.Rows L2 Gq
def miD : Option Int → List PD → Option Int
  | a, [] => a
  | none, .int j :: r => miD (some j) r
  | some m, .int j :: r => miD (some (if j < m then j else m)) r
  | _, _ :: _ => none
theorem mi_int {K : PySem.W.Frag} {H : Hp} {m : Int} : ∀ {zs : List PD} {ys : List V} {a : Option Int}, TrA K H ys zs → miD a zs = some m → miV a ys = some m
  | [], ys, a, t, e => by
    cases t
    exact e
  | z :: zs, ys, a, t, e => by
    cases t with
    | cons t1 t2 =>
      cases z with
      | int j =>
        cases t1
        cases a with
        | none => have := mi_int (a := some j) t2 e; exact this
        | some a => have := mi_int (a := some (if j < a then j else a)) t2 e; exact this
      | _ => cases a <;> cases e
theorem mi_mem : ∀ {as : List PD} {x : PD} {rest : List PD} {a : Option Int} {m : Int}, miD a (as ++ x :: rest) = some m → ∃ i, x = .int i
  | [], x, rest, a, m, e => by
    cases x with
    | int i => exact ⟨i, rfl⟩
    | _ => cases a <;> cases e
  | b :: as, x, rest, a, m, e => by
    cases b with
    | int i =>
      cases a with
      | none => have := mi_mem (as := as) (a := some i) e; exact this
      | some a => have := mi_mem (as := as) (a := some (if i < a then i else a)) e; exact this
    | _ => cases a <;> cases e
def fMinG (k : Nat) (fi : Ea) (st : PD → Rho → Option Rho) (g : Et) (fe : Ev) : Ev := fun ρ => (fi ρ).bind fun q => (colL (trn k st g fe) q.1 q.2).bind fun r => (miD none r.1).map fun j => (.val (.int j), r.2)
section
variable {K : PySem.W.Frag} {T : List Addr} {gt : TG} {is : List Nat} {st : PD → Rho → Option Rho} {g : Et} {fe : Ev} {k : Nat}
theorem min_core {P : Addr} {fi : Ea} {n : Nat} (hP : P ∈ T) (hgo : GOk K T is gt st) (hn : ∀ i ∈ is, n ≤ i) {σ : Slots} (hσ : σ.length = n) {H : Hp} {Q : VK} (h : tS K T (fMinG k fi st g fe) σ H Q) :
    tGen P k (tI K T fi) gt (tT K T g) (tS K T (fVal fe)) stMin fiMin σ H Q := by
  obtain ⟨ρ, r, ρ', R, e, q⟩ := h
  obtain ⟨⟨ds, ρ1⟩, e1, e⟩ := obind e
  obtain ⟨⟨zs, ρe⟩, e2, e⟩ := obind e
  obtain ⟨j, e3, e⟩ := omap e
  cases e
  refine col_core hP hgo hn hσ R e1 e2 (fun ys y H' nx as a rest ez t1 t2 hx => ⟨?_, hx⟩) (fun ys H' P' t => ?_)
  · subst ez
    obtain ⟨i, rfl⟩ := mi_mem e3
    cases t2
    exact ⟨i, rfl⟩
  · exact ⟨j, mi_int t e3, q _ _ (P'.toE (.int j))⟩
end
section
variable {X : Cx} {T : List Addr} {N' : List Str} {scope : Scope} {elt tg iter : Expr} {ifs : List Expr} {gpos p pos : Pos} {gt : TG} {is : List Nat} {st : PD → Rho → Option Rho} {g : Et} {fe : Ev} {fi : Ea} {c P : Addr} {k r : Nat}
theorem s_minG (hr : Room (r + 1) X.A) (hgl : Gl X "min") (hm : X.mg "min" = none) (hb : bootBuiltins "min" = some (.builtin "min")) (CX : Cdx X P) (hP : P ∈ T) (S : GScp X scope N') (hk : N'.length = X.N.length + k) (hi : SI X T tg iter fi) (hgo : GOk X.K T is gt st) (hn : ∀ i ∈ is, X.N.length ≤ i)
    (hg : ∀ cl Ca code s0 H0 fp, PG (gcx X X.A.in4.in1 N' (genEnv scope cl Ca code builtinsNs X.env) s0 H0 fp) tg gt) (ht : ∀ cl Ca code s0 H0 fp, STs (gcx X X.A.in4.in1 N' (genEnv scope cl Ca code builtinsNs X.env) s0 H0 fp) T ifs g)
    (hel : ∀ cl Ca code s0 H0 fp, NxC X P gpos code H0 → SE (gcx X X.A.in4.in1 N' (genEnv scope cl Ca code builtinsNs X.env) s0 H0 fp) T elt fe)
    (hs : ∀ v, genFold iter X.env v = pure v := by intro _; rfl) (he : starEach [.GeneratorExp elt [⟨tg, iter, ifs, 0⟩] scope gpos] X.env = (false, eval (.GeneratorExp elt [⟨tg, iter, ifs, 0⟩] scope gpos) X.env) :: starEach [] X.env := by rfl) :
    SE X T (.Call (.Name "min" p) [.GeneratorExp elt [⟨tg, iter, ifs, 0⟩] scope gpos] [] pos) (fMinG k fi st g fe) :=
  PE.impL (pe_minG (tt := tT X.K T g) (te := tS X.K T (fVal fe)) hr hgl hm hb CX S hk hi hg ht (fun cl Ca code s0 H0 fp hN => s_val (hel cl Ca code s0 H0 fp hN)) hs he) fun σ H Q hl q => min_core hP hgo hn hl q
end
end Dv
set_option Elab.async false
set_option linter.all false
set_option maxRecDepth 100000
set_option maxHeartbeats 4000000
namespace Dv
open PySem PySem.Spec PyProof.Rows L2 Gq
def ltIs : List PD → List PD → Bool
  | .int a :: xs, .int b :: ys => if a = b then ltIs xs ys else decide (a < b)
  | [], _ :: _ => true
  | _, _ => false
def ltP : PD → PD → Bool
  | .tuple [.int a, .tuple l], .tuple [.int b, .tuple m] => if a = b then ltIs l m else decide (a < b)
  | .tuple [.tuple [.int a, .int b], .tuple l], .tuple [.tuple [.int c, .int d], .tuple m] => if a = c ∧ b = d then ltIs l m else if a = c then decide (b < d) else decide (a < c)
  | .tuple l, .tuple m => ltIs l m
  | .int a, .int b => decide (a < b)
  | _, _ => false
inductive KindIs : Nat → PD → Prop
  | k1 (r : List Int) : KindIs 1 (tupI r)
  | k2 (i : Int) (r : List Int) : KindIs 2 (.tuple [.int i, tupI r])
  | k3 (i j : Int) (r : List Int) : KindIs 3 (.tuple [.tuple [.int i, .int j], tupI r])
  | k4 (i : Int) : KindIs 4 (.int i)
theorem lay_all : ∀ {l : List PD}, (∀ d ∈ l, d.canLay0 = true) → PyData.canLayAll0 l = true
  | [], _ => rfl
  | x :: r, h => by
    show (x.canLay0 && PyData.canLayAll0 r) = true
    rw [h x List.mem_cons_self, lay_all fun d hd => h d (List.mem_cons_of_mem _ hd)]
    rfl
end Dv
set_option Elab.async false
set_option linter.all false
set_option maxRecDepth 100000
set_option maxHeartbeats 4000000
namespace Dv
open PySem PySem.Spec PyProof.Rows L2 Gq
def idxP (k : PD) : List PD → Option Nat
  | [] => none
  | d :: r => match PyData.eqv d k with | true => some 0 | false => match idxP k r with | some j => some (j + 1) | none => none
theorem idxP_some {k : PD} : ∀ {ds : List PD} {j : Nat}, idxP k ds = some j → ∃ z, ds[j]? = some z ∧ PyData.eqv z k = true ∧ ∀ (m : Nat) (z' : PD), m < j → ds[m]? = some z' → PyData.eqv z' k = false
  | [], _, h => by cases h
  | d :: r, j, h => by
    unfold idxP at h
    split at h
    · rename_i e
      cases h
      exact ⟨d, rfl, e, fun m z' hm => absurd hm (Nat.not_lt_zero m)⟩
    · rename_i e
      split at h
      · rename_i i hi
        cases h
        obtain ⟨z, h1, h2, h3⟩ := idxP_some hi
        refine ⟨z, h1, h2, fun m z' hm hz => ?_⟩
        cases m with
        | zero => cases hz; exact e
        | succ m => exact h3 m z' (by omega) hz
      · cases h
theorem seq_reads {X : Cx} {pins : List (Addr × Obj)} {σ : L2.St} {H : Hp} {s : Shared} {xs : List V} {ds : List PD} {its : List Value} (I : Inv X pins σ H s) (rv : Vals xs its) (ha : DpAll X.K H xs ds) (hxs : PyData.canLayAll0 ds = true) :
    ∃ as, ReadsAll s.heap its ds as ∧ its.map (SeqAt.readOf s.heap) = ds := by
  obtain ⟨as, h⟩ := Dp.readsAll I ds _ its ha rv
  exact ⟨as, h, SeqAt.readsAll_map ds its as hxs h⟩
def rIdxD (isL : Bool) (K : PySem.W.Frag) : V → List V → Hp → VK → Prop := fun x xs H Q => ∃ (a : Addr) (y : V) (zs : List V) (d : PD) (ds : List PD) (j : Nat), x = V.ref a ∧ xs = [y] ∧ (if isL = true then SqL K H a zs else SqT K H a zs) ∧ DpAll K H zs ds ∧ Dp K H y d ∧
  SeqAt.shaped (.list ds) = true ∧ SeqAt.shaped d = true ∧ idxP d ds = some j ∧ Q (.int (j : Nat)) H
section
variable {X : Cx}
theorem at_of {h : Heap} {its : List Value} {ds : List PD} (hmap : its.map (SeqAt.readOf h) = ds) : ∀ (m : Nat) (hm : m < its.toArray.size) (z' : PD), ds[m]? = some z' → SeqAt.readOf h its.toArray[m] = z' := by
  intro m hm z' hz'
  have hml : m < its.length := by simpa using hm
  rw [← hmap, List.getElem?_map, List.getElem?_eq_getElem hml] at hz'
  have e1 : SeqAt.readOf h its[m] = z' := Option.some.inj (show some (SeqAt.readOf h its[m]) = some z' from hz')
  simpa using e1
theorem mt_lidx (hu : X.A.units + 65 < cLine) : MtR X "list.index" (rIdxD true X.K) := by
  intro pins s σ H x xs v us Q I rx rxs h
  obtain ⟨a, y, zs, d, ds, j, rfl, rfl, hs, ha, hy, sl, sd, hj0, q⟩ := h
  have hs : SqL X.K H a zs := hs
  cases rx
  cases rxs with
  | cons ry rt =>
    rename_i uy ut
    cases rt
    obtain ⟨bs, r1⟩ := Dp.reads I d y uy hy ry
    have hxs : PyData.canLayAll0 ds = true := SeqAt.canLay_of_shaped sl
    have hroom : X.A.units + 1 + min (PyData.depthAll ds) d.depth < cLine := room_in_shaped sd hu
    obtain ⟨z, hz, hzj, hno⟩ := idxP_some hj0
    obtain ⟨its, rv, ⟨⟨cls, dd, data, sls⟩, n, ho, hc, hdn, hdt⟩, hlen⟩ := I.list hs
    simp only at hc hdt
    subst hc hdt
    obtain ⟨as, h4, hmap⟩ := seq_reads I rv ha hxs
    have hn : its.length = ds.length := by rw [← hmap, List.length_map]
    have hvl := rv.length
    have hsl := sizeLine_eq
    obtain ⟨hjd, _⟩ := List.getElem?_eq_some_iff.mp hz
    have hjl : j < its.length := by omega
    have hj : j < its.toArray.size := by simpa using hjl
    have at_ := at_of hmap
    refine call_meets PySem.F.slot_list_index ⟨_, ho, rfl⟩ PySem.F.entry_list_index (PySem.F.args_list_index_2 _ _)
      (SeqAt.list_indexAt a its.toArray n dd sls uy (fun u => PyData.eqv (SeqAt.readOf s.heap u) d) j hj (by omega) ?_ ?_) ⟨ho, SeqAt.items_eqAt (vs := its.toArray) (show ReadsAll s.heap its.toArray.toList ds as from h4) r1 hxs (SeqAt.canLay_of_shaped sd) hroom, ?_⟩
    · show PyData.eqv (SeqAt.readOf s.heap its.toArray[j]) d = true
      rw [at_ j hj z hz]
      exact hzj
    · intro m hm hmj
      have hz' : ds[m]? = some ds[m] := List.getElem?_eq_getElem (by omega)
      show PyData.eqv (SeqAt.readOf s.heap its.toArray[m]) d = false
      rw [at_ m hm _ hz']
      exact hno m _ hmj hz'
    · exact ⟨.int (j : Nat), H, I.tok _, ⟨_, rfl⟩, q⟩
theorem mt_tidx (hu : X.A.units + 65 < cLine) : MtR X "tuple.index" (rIdxD false X.K) := by
  intro pins s σ H x xs v us Q I rx rxs h
  obtain ⟨a, y, zs, d, ds, j, rfl, rfl, hs, ha, hy, sl, sd, hj0, q⟩ := h
  have hs : SqT X.K H a zs := hs
  cases rx
  cases rxs with
  | cons ry rt =>
    rename_i uy ut
    cases rt
    obtain ⟨bs, r1⟩ := Dp.reads I d y uy hy ry
    have hxs : PyData.canLayAll0 ds = true := SeqAt.canLay_of_shaped sl
    have hroom : X.A.units + 1 + min (PyData.depthAll ds) d.depth < cLine := room_in_shaped sd hu
    obtain ⟨z, hz, hzj, hno⟩ := idxP_some hj0
    obtain ⟨its, rv, ⟨⟨cls, dd, data, sls⟩, ho, hc, n, hdt⟩, hlen⟩ := I.tuple hs
    simp only at hc hdt
    subst hc hdt
    obtain ⟨as, h4, hmap⟩ := seq_reads I rv ha hxs
    have hn : its.length = ds.length := by rw [← hmap, List.length_map]
    have hvl := rv.length
    have hsl := sizeLine_eq
    obtain ⟨hjd, _⟩ := List.getElem?_eq_some_iff.mp hz
    have hjl : j < its.length := by omega
    have hj : j < its.toArray.size := by simpa using hjl
    have at_ := at_of hmap
    refine call_meets PySem.F.slot_tuple_index ⟨_, ho, rfl⟩ PySem.F.entry_tuple_index (PySem.F.args_tuple_index_2 _ _)
      (TI.tuple_indexAt a its.toArray n dd sls uy (fun u => PyData.eqv (SeqAt.readOf s.heap u) d) j hj  ?_ ?_) ⟨ho, SeqAt.items_eqAt (vs := its.toArray) (show ReadsAll s.heap its.toArray.toList ds as from h4) r1 hxs (SeqAt.canLay_of_shaped sd) hroom, ?_⟩
    · show PyData.eqv (SeqAt.readOf s.heap its.toArray[j]) d = true
      rw [at_ j hj z hz]
      exact hzj
    · intro m hm hmj
      have hz' : ds[m]? = some ds[m] := List.getElem?_eq_getElem (by omega)
      show PyData.eqv (SeqAt.readOf s.heap its.toArray[m]) d = false
      rw [at_ m hm _ hz']
      exact hno m _ hmj hz'
    · exact ⟨.int (j : Nat), H, I.tok _, ⟨_, rfl⟩, q⟩
end
end Dv
set_option Elab.async false
set_option linter.all false
set_option maxRecDepth 100000
set_option maxHeartbeats 4000000
namespace Dv
open PySem PySem.Spec PyProof.Rows L2 Gq
def tMeth (K : PySem.W.Frag) (rL rT : V → List V → Hp → VK → Prop) (to : TE) (t : TA) : TE := fun σ H Q => to σ H fun x H1 => ∃ p, x = .ref p ∧
  (((∃ xs, SqL K H1 p xs) ∧ t σ H1 fun vs H2 => rL (.ref p) vs H2 Q) ∨ ((∃ xs, SqTF K H1 p xs) ∧ t σ H1 fun vs H2 => rT (.ref p) vs H2 Q))
section
variable {X : Cx} {T : List Addr} {e : Expr} {f1 f2 : Ev} {apos cpos : Pos}
theorem pe_midx {o : Expr} {to : TE} {t : TA} (hu : X.A.units + 65 < cLine) (ho : PE X o to) (h : PA X [e] t) (hbase : attributeBase o "index" X.env (eval o X.env) = eval o X.env := by rfl)
    (few : ((backTo cpos (starEach [e] X.env)).all (fun x => !x.1) && (backToKw cpos (keywordEach [] X.env)).all (fun x => x.1.isSome) && decide ([e].length + ([] : List Keyword).length + (if ([] : List Keyword).isEmpty then 0 else 1) < 30)) = true := by rfl)
    (hline : (apos.endLine == cpos.line) = true := by rfl) (he : starEach [e] X.env = (false, eval e X.env) :: starEach [] X.env := by rfl) (hplain : (backTo cpos (starEach [] X.env)).any (·.1) = false := by rfl) :
    PE X (.Call (.Attribute o "index" apos) [e] [] cpos) (tMeth X.K (rIdxD true X.K) (rIdxD false X.K) to t) := by
  refine ⟨fun pins s σ H Q I hh => ?_⟩
  refine wpAny_Call_method_late hbase few hline rfl (thn (ho.run pins s σ H _ I hh) fun v s1 ⟨x, H1, I1, r1, p, ex, q1⟩ => ?_)
  subst ex
  have rr := r1
  cases r1
  rcases q1 with ⟨⟨xs, hx⟩, q1⟩ | ⟨⟨xs, hx⟩, q1⟩
  · obtain ⟨h1, h2⟩ := tyV_is (T := "list") I1 rr (.inl ⟨rfl, xs, hx⟩)
    refine ⟨"list", "list.index", PySem.F.plainAttrs_list, PySem.F.slot_list_index, PySem.F.type_list_index, h1, h2, ?_⟩
    rw [he]
    refine Calls.callWith_builtin (by show (false || (backTo cpos (starEach [] X.env)).any (·.1)) = false; rw [hplain]; rfl) (Calls.evalArgs_plain ?_)
    have hA := h.run cpos pins s1 σ H1 _ I1 q1
    rw [he] at hA
    exact thn hA fun us s2 ⟨vs, H2, I2, r2, q3⟩ => mt_lidx hu pins s2 σ H2 (.ref p) _ _ _ Q I2 rr r2 q3
  · obtain ⟨h1, o, h2, h3⟩ := nodict I1 hx
    refine ⟨"tuple", "tuple.index", PySem.F.plainAttrs_tuple, PySem.F.slot_tuple_index, PySem.F.type_tuple_index, h1, fun a e => ?_, ?_⟩
    · cases e
      exact ⟨o, h2, h3⟩
    rw [he]
    refine Calls.callWith_builtin (by show (false || (backTo cpos (starEach [] X.env)).any (·.1)) = false; rw [hplain]; rfl) (Calls.evalArgs_plain ?_)
    have hA := h.run cpos pins s1 σ H1 _ I1 q1
    rw [he] at hA
    exact thn hA fun us s2 ⟨vs, H2, I2, r2, q3⟩ => mt_tidx hu pins s2 σ H2 (.ref p) _ _ _ Q I2 rr r2 q3
def hIdxM (d k : PD) : Option PD := match d with
  | .list l => match SeqAt.shaped (.list l) with | true => (match SeqAt.shaped k with | true => ((idxP k l).map fun j => PyData.int (j : Nat)) | false => none) | false => none
  | .tuple l => match SeqAt.shaped (.list l) with | true => (match SeqAt.shaped k with | true => ((idxP k l).map fun j => PyData.int (j : Nat)) | false => none) | false => none
  | _ => none
theorem hIdxM_some {d k r : PD} (h : hIdxM d k = some r) : ∃ l, (d = .list l ∨ d = .tuple l) ∧ SeqAt.shaped (.list l) = true ∧ SeqAt.shaped k = true ∧ ((idxP k l).map fun j => PyData.int (j : Nat)) = some r := by
  unfold hIdxM at h
  split at h
  · split at h
    · split at h
      · exact ⟨_, .inl rfl, by assumption, by assumption, h⟩
      · cases h
    · cases h
  · split at h
    · split at h
      · exact ⟨_, .inr rfl, by assumption, by assumption, h⟩
      · cases h
    · cases h
  · cases h
def fIdxM (f1 f2 : Ev) : Ev := fun ρ => (f1 ρ).bind fun p1 => (f2 p1.2).bind fun p2 => (pk p1.1 p1.2).bind fun d0 => (pk p1.1 p2.2).bind fun d1 => if tyN d0 = tyN d1 then (pk p2.1 p2.2).bind fun d2 => (hIdxM d1 d2).map fun r => (.val r, p2.2) else none
theorem s_idxM {o : Expr} (hu : X.A.units + 65 < cLine) (h1 : SE X T o f1) (h2 : SE X T e f2) (hbase : attributeBase o "index" X.env (eval o X.env) = eval o X.env := by rfl)
    (few : ((backTo cpos (starEach [e] X.env)).all (fun x => !x.1) && (backToKw cpos (keywordEach [] X.env)).all (fun x => x.1.isSome) && decide ([e].length + ([] : List Keyword).length + (if ([] : List Keyword).isEmpty then 0 else 1) < 30)) = true := by rfl)
    (hline : (apos.endLine == cpos.line) = true := by rfl) (he : starEach [e] X.env = (false, eval e X.env) :: starEach [] X.env := by rfl) (hplain : (backTo cpos (starEach [] X.env)).any (·.1) = false := by rfl) :
    SE X T (.Call (.Attribute o "index" apos) [e] [] cpos) (fIdxM f1 f2) := by
  refine PE.imp (pe_midx hu h1 (pa_cons h2 pa_nil he) hbase few hline he hplain) fun σ H Q ⟨ρ, r, ρ', R, e, q⟩ => ?_
  obtain ⟨⟨r1, ρ1⟩, e1, e⟩ := obind e
  obtain ⟨⟨r2, ρ2⟩, e2, e⟩ := obind e
  obtain ⟨d0, k0, e⟩ := obind e
  obtain ⟨d1, k1, e⟩ := obind e
  simp only at e
  split at e
  rotate_left
  · cases e
  rename_i hty
  obtain ⟨d2, k2, e⟩ := obind e
  obtain ⟨r', hr, e⟩ := omap e
  cases e
  refine ⟨ρ, r1, ρ1, R, e1, fun x H1 P1 => ?_⟩
  have t0 := P1.tw k0
  obtain ⟨l, hl, sl, sk, hv⟩ := hIdxM_some hr
  rcases hl with rfl | rfl
  · cases d0 <;> simp only [tyN] at hty <;> first | (exact absurd hty (by decide)) | (cases hty; done) | skip
    case list l0 =>
      obtain ⟨a, xs, rfl, hx, _⟩ := t0.seq
      refine ⟨a, rfl, .inl ⟨⟨xs, hx⟩, ρ1, r2, _, P1.rep, e2, fun y H2 P2 => ?_⟩⟩
      have P12 := P1.held P2
      obtain ⟨a', xs', ea, hx', t'⟩ := (P12.tw k1).seq
      cases ea
      obtain ⟨j, hj, hv⟩ := omap hv
      cases hv
      exact ⟨_, _, xs', _, l, j, rfl, rfl, hx', t'.dp, (P2.tw k2).dp, sl, sk, hj, q _ _ (P12.op (nr_val (.int _)))⟩
  · cases d0 <;> simp only [tyN] at hty <;> first | (exact absurd hty (by decide)) | (cases hty; done) | skip
    case tuple l0 =>
      obtain ⟨a, xs, rfl, hx, _⟩ := t0.tseq
      refine ⟨a, rfl, .inr ⟨⟨xs, hx⟩, ρ1, r2, _, P1.rep, e2, fun y H2 P2 => ?_⟩⟩
      have P12 := P1.held P2
      obtain ⟨a', xs', ea, hx', t'⟩ := (P12.tw k1).tseq
      cases ea
      obtain ⟨j, hj, hv⟩ := omap hv
      cases hv
      exact ⟨_, _, xs', _, l, j, rfl, rfl, hx'.sqt, t'.dp, (P2.tw k2).dp, sl, sk, hj, q _ _ (P12.op (nr_val (.int _)))⟩
end
end Dv
set_option Elab.async false
set_option linter.all false
set_option maxRecDepth 100000
set_option maxHeartbeats 4000000
namespace Dv
open PySem PySem.Spec PyProof.Rows L2 Gq
section
variable {X : Cx}
def rInTD (neg : Bool) (K : PySem.W.Frag) : R2 := fun x y H Q => ∃ d ds, Dp K H x d ∧ Dp K H y (.tuple ds) ∧ SeqAt.shaped d = true ∧ SeqAt.shaped (.tuple ds) = true ∧ Q (.bl (if neg then !(ds.any fun z => PyData.eqv z d) else ds.any fun z => PyData.eqv z d)) H
theorem op_notInT (hu : X.A.units + 65 < cLine) : OpR X (compareOp .NotIn) (rInTD true X.K) := by
  intro pins s σ H x y v u Q I rx ry h
  obtain ⟨d, ds, hd, he, sd, se, q⟩ := h
  obtain ⟨as, r1⟩ := Dp.reads I d x v hd rx
  obtain ⟨bs, r2⟩ := Dp.reads I (.tuple ds) y u he ry
  exact SeqAt.notIn_tuple_reads r2 r1 (SeqAt.canLay_of_shaped se) (SeqAt.canLay_of_shaped sd) (room_in_shaped sd hu) ⟨.bl _, H, I, rfl, q⟩
theorem op_notInX (hu : X.A.units + 65 < cLine) : OpR X (compareOp .NotIn) (fun x y H Q => rIn X.K true x y H Q ∨ (rNotInD X.K x y H Q ∨ rInTD true X.K x y H Q)) := OpR.or op_notIn_seq (OpR.or (op_notInD hu) (op_notInT hu))
end
def hInT (neg : Bool) (d : PD) : PD → Option Rs
  | .list l => hInD neg d (.list l)
  | .tuple l => if SeqAt.shaped d = true ∧ SeqAt.shaped (.tuple l) = true then some (.val (.bool (if neg then !(l.any fun z => PyData.eqv z d) else l.any fun z => PyData.eqv z d))) else none
  | _ => none
def hInX (neg : Bool) (d e : PD) : Option Rs := match hIn neg d e with
  | some r => some r
  | none => hInT neg d e
theorem inX_some {neg : Bool} {d e : PD} {r : Rs} (h : hInX neg d e = some r) : hIn neg d e = some r ∨ (∃ l, e = .list l ∧ hInD neg d e = some r) ∨ ∃ l, e = .tuple l ∧ SeqAt.shaped d = true ∧ SeqAt.shaped (.tuple l) = true ∧ r = .val (.bool (if neg then !(l.any fun z => PyData.eqv z d) else l.any fun z => PyData.eqv z d)) := by
  unfold hInX at h
  split at h
  · rename_i e1
    rw [e1, h]
    exact .inl rfl
  · cases e <;> simp only [hInT] at h <;> first | (cases h; done) | skip
    case list => exact .inr (.inl ⟨_, rfl, h⟩)
    case tuple =>
      obtain ⟨⟨h1, h2⟩, e⟩ := ite_some h
      exact .inr (.inr ⟨_, rfl, h1, h2, e⟩)
theorem b_notInX {K : PySem.W.Frag} : BinR K (fun x y H Q => rIn K true x y H Q ∨ (rNotInD K x y H Q ∨ rInTD true K x y H Q)) (hInX true) := by
  intro H x y d1 d2 r Q t1 t2 e q
  rcases inX_some e with e | ⟨l, rfl, e⟩ | ⟨l, rfl, h1, h2, rfl⟩
  · exact .inl (b_in true H x y d1 d2 r Q t1 t2 e q)
  · exact .inr (.inl (b_notInD H x y d1 _ r Q t1 t2 e q))
  · exact .inr (.inr ⟨d1, l, t1.dp, t2.dp, h1, h2, q _ _ (nr_val (.bl _))⟩)
end Dv
set_option Elab.async false
set_option linter.all false
set_option maxRecDepth 100000
set_option maxHeartbeats 4000000
namespace Dv
open PySem PySem.Spec PyProof.Rows L2 Gq
end Dv
set_option Elab.async false
set_option linter.all false
set_option maxRecDepth 100000
set_option maxHeartbeats 4000000
namespace Dv
open PySem PySem.Spec PyProof.Rows L2 Gq PySem.SeqAt PySem.W
end Dv
set_option Elab.async false
set_option linter.all false
set_option maxRecDepth 100000
set_option maxHeartbeats 4000000
namespace Dv
open PySem PySem.Spec PyProof.Rows L2 Gq HT
end Dv
set_option Elab.async false
set_option linter.all false
set_option maxRecDepth 100000
set_option maxHeartbeats 4000000
namespace Dv
open PySem PySem.Spec PyProof.Rows L2 Gq
end Dv
set_option Elab.async false
set_option linter.all false
set_option maxRecDepth 100000
set_option maxHeartbeats 4000000
namespace Dv
open PySem PySem.Spec PyProof.Rows L2 Gq
section
variable {prog : Program} {w : World} {A : Around} {E : Value → Shared → Prop} {s : Shared}
theorem sum_rawT {t : Addr} {its : List Value} {ns : List Int} {Q : Value → Shared → Prop} (hh : A.handled = none) (hl : s.heap.IsTuple t its.toArray) (hi : IntsAre its ns)
    (h : ∀ h' tk t', (∀ b o, s.heap.get? b = some o → h'.get? b = some o) → Q (.int ns.sum t') { s with heap := h', toks := tk }) : wpAny (model prog w) A (call (.builtin "sum") [.ref t]) Q E s := by
  obtain ⟨xs, e⟩ := hi.allInts.items
  have hn : numsOf (intItems xs).toList = ns := by rw [← e]; exact hi.numsOf
  rw [nums_intItems] at hn
  rw [e] at hl
  refine PySem.W.ktm_sumG hh hl fun h' tk t' hk => ?_
  have := h h' tk t' hk
  rw [preSum_eq, List.take_of_length_le (by simp), hn]; exact this
end
section
variable {X : Cx}
def rSumT (K : PySem.W.Frag) : List V → Hp → VK → Prop := fun vs H Q => ∃ (a : Addr) (ns : List Int), vs = [V.ref a] ∧ SqT K H a (ns.map V.int) ∧ Q (.int ns.sum) H
theorem cr_sumT (hc : X.calm = true) : CallR X (.builtin "sum") (rSumT X.K) := by
  intro pins s σ H vs us Q I r h
  obtain ⟨a, ns, rfl, hs, q⟩ := h
  obtain ⟨its, rv, hl, _⟩ := I.tuple hs
  rw [Vals.ref1 r]
  exact sum_rawT (I.ok.hd hc) hl rv.ints fun h' tk t' hk => ⟨.int _, H, I.kept hk, ⟨_, rfl⟩, q⟩
theorem cr_sum2 (hc : X.calm = true) : CallR X (.builtin "sum") (fun vs H Q => rSum X.K vs H Q ∨ rSumT X.K vs H Q) := CallR.or (cr_sum hc) (cr_sumT hc)
end
def hSum2 : PD → Option Rs
  | .list l => (intsOf l).map fun ns => .val (.int ns.sum)
  | .tuple l => (intsOf l).map fun ns => .val (.int ns.sum)
  | _ => none
section
variable {K : PySem.W.Frag}
theorem u_sum2 : UnR1 K (fun vs H Q => rSum K vs H Q ∨ rSumT K vs H Q) hSum2 := by
  intro H x d rs Q t e q
  cases d <;> simp only [hSum2] at e <;> first | (cases e; done) | skip
  case list l =>
    obtain ⟨ns, e1, e2⟩ := omap e
    cases e2
    obtain ⟨a, xs, rfl, h, t⟩ := t.seq
    exact .inl ⟨a, ns, rfl, by rw [← t.ints e1]; exact h, q _ _ (nr_val (.int _))⟩
  case tuple l =>
    obtain ⟨ns, e1, e2⟩ := omap e
    cases e2
    obtain ⟨a, xs, rfl, h, t⟩ := t.tseq
    exact .inr ⟨a, ns, rfl, by rw [← t.ints e1]; exact h.sqt, q _ _ (nr_val (.int _))⟩
end
end Dv
set_option Elab.async false
set_option linter.all false
set_option maxRecDepth 100000
set_option maxHeartbeats 4000000
namespace Lw
open PySem PySem.Spec PyProof.Rows L2 Gq Dv
theorem rcons_val {f : Ev} {fs : Er} {ρ ρ1 ρ2 : Rho} {d : PD} {rs : List Rs} (h : f ρ = some (.val d, ρ1)) (h2 : fs ρ1 = some (rs, ρ2)) : rCons f fs ρ = some (.val d :: rs, ρ2) := by
  unfold rCons fHalf
  rw [h]
  simp only [Option.bind_some, h2]
theorem rcons_new {f : Ev} {fs : Er} {ρ ρ1 ρ2 : Rho} {l : List PD} {rs : List Rs} (h : f ρ = some (.new l, ρ1)) (h2 : fs ρ1 = some (rs, ρ2)) : rCons f fs ρ = some (.new l :: rs, ρ2) := by
  unfold rCons fHalf
  rw [h]
  simp only [Option.bind_some, h2]
theorem par_eq {is : List Nat} {fs : Er} {ρ ρ1 ρ2 : Rho} {rs : List Rs} (h : fs ρ = some (rs, ρ1)) (h2 : putsR is rs ρ1 = some ρ2) : cParR is fs ρ = some (.nx ρ2) := by
  unfold cParR
  rw [h, Option.bind_some, h2]; rfl
theorem seq_ex {p1 p2 : Es} {ρ ρ1 : Rho} (h : p1 ρ = some (.nx ρ1)) (h2 : ∃ ρ', p2 ρ1 = some (.rt (.bool true) ρ')) : ∃ ρ', cSeq p1 p2 ρ = some (.rt (.bool true) ρ') := by
  obtain ⟨ρ', e⟩ := h2
  exact ⟨ρ', seq_nx h e⟩
def row0 (seed : Int) (ns : List Int) : List PD := [.list (ls ns), .int 0, .int seed, .int 0]
theorem row_ok {seed : Int} {ns : List Int} (h0 : 0 ≤ seed) (h1 : seed < 2147483647) : RowOk (row0 seed ns) := ⟨ns, 0, seed, 0, rfl, by decide, h0, h1⟩
theorem lst_le {fs : Ea} {ρ ρ1 : Rho} {ds : List PD} (h : fs ρ = some (ds, ρ1)) (hl : ds.length ≤ 100) : fLst fs ρ = some (.new ds, ρ1) := by
  unfold fLst
  rw [h, Option.bind_some]
  exact if_pos (Nat.le_of_lt (big_sz hl))
theorem row_start (seed : Int) (ns : List Int) (n : Nat) (own : Bool) : cAsg 1 (fLst (aCons (fLoc 0) (aCons (fCst (.int 0)) (aCons (fCst (.int seed)) (aCons (fCst (.int 0)) aNil))))) (st0 own ns :: noS (n + 1)) = some (.nx (.val (.list (ls ns)) :: .own false (row0 seed ns) :: noS n)) := by
  have e0 : fVal (fLoc 0) (st0 own ns :: noS (n + 1)) = some (.val (.list (ls ns)), .val (.list (ls ns)) :: noS (n + 1)) := by
    cases own with
    | true => exact val_eq (r := .slot 0) rfl rfl
    | false => exact val_v rfl
  have e1 : aCons (fLoc 0) (aCons (fCst (.int 0)) (aCons (fCst (.int seed)) (aCons (fCst (.int 0)) aNil))) (st0 own ns :: noS (n + 1)) = some (row0 seed ns, .val (.list (ls ns)) :: noS (n + 1)) :=
    acons_eq e0 (acons_eq (val_v rfl) (acons_eq (val_v rfl) (acons_eq (val_v rfl) rfl)))
  exact asg_new (lst_le e1 (by unfold row0; simp)) rfl
end Lw
set_option Elab.async false
set_option linter.all false
set_option maxRecDepth 100000
set_option maxHeartbeats 4000000
namespace Fz
open PySem PySem.Spec PyProof.Rows L2 Gq Dv Lw
noncomputable section
def getR {α : Type} (xs : List α) : Nat → Option α := List.rec (motive := fun _ => Nat → Option α) (fun _ => none) (fun x _ ih n => Nat.rec (motive := fun _ => Option α) (some x) (fun m _ => ih m) n) xs
theorem getR_eq {α : Type} : ∀ (xs : List α) (n : Nat), xs[n]? = getR xs n
  | [], _ => by simp [getR]
  | x :: xs, 0 => rfl
  | x :: xs, n + 1 => by rw [List.getElem?_cons_succ, getR_eq xs n] <;> rfl
def putR {α : Type} (xs : List α) : Nat → α → List α := List.rec (motive := fun _ => Nat → α → List α) (fun _ _ => []) (fun x xs ih n y => Nat.rec (motive := fun _ => List α) (y :: xs) (fun m _ => x :: ih m y) n) xs
theorem putR_eq {α : Type} : ∀ (xs : List α) (n : Nat) (y : α), xs.set n y = putR xs n y
  | [], _, _ => rfl
  | x :: xs, 0, _ => rfl
  | x :: xs, n + 1, y => by rw [List.set_cons_succ, putR_eq xs n y] <;> rfl
def lenR {α : Type} (xs : List α) : Nat := List.rec (motive := fun _ => Nat) 0 (fun _ _ ih => Nat.add ih 1) xs
theorem lenR_eq {α : Type} : ∀ xs : List α, xs.length = lenR xs
  | [] => rfl
  | x :: xs => by rw [List.length_cons, lenR_eq xs] <;> rfl
def appR {α : Type} (xs ys : List α) : List α := List.rec (motive := fun _ => List α) ys (fun x _ ih => x :: ih) xs
theorem appR_eq {α : Type} : ∀ xs ys : List α, xs ++ ys = appR xs ys
  | [], _ => rfl
  | x :: xs, ys => by rw [List.cons_append, appR_eq xs ys] <;> rfl
def eqI : Int → Int → Bool := fun i j => Int.rec (motive := fun _ => Bool) (fun a => Int.rec (motive := fun _ => Bool) (fun b => Nat.beq a b) (fun _ => false) j) (fun a => Int.rec (motive := fun _ => Bool) (fun _ => false) (fun b => Nat.beq a b) j) i
theorem eqI_eq : ∀ i j : Int, (i == j) = eqI i j
  | .ofNat a, .ofNat b => by
    show _ = Nat.beq a b
    rw [Bool.eq_iff_iff, beq_iff_eq, Nat.beq_eq]
    exact ⟨fun h => Int.ofNat.inj h, fun h => by rw [h]⟩
  | .negSucc a, .negSucc b => by
    show _ = Nat.beq a b
    rw [Bool.eq_iff_iff, beq_iff_eq, Nat.beq_eq]
    exact ⟨fun h => Int.negSucc.inj h, fun h => by rw [h]⟩
  | .ofNat a, .negSucc b => by
    show _ = false
    rw [beq_eq_false_iff_ne]
    intro h; cases h
  | .negSucc a, .ofNat b => by
    show _ = false
    rw [beq_eq_false_iff_ne]
    intro h; cases h
def leI : Int → Int → Bool := fun i j => Int.rec (motive := fun _ => Bool) (fun a => Int.rec (motive := fun _ => Bool) (fun b => Nat.ble a b) (fun _ => false) j) (fun a => Int.rec (motive := fun _ => Bool) (fun _ => true) (fun b => Nat.ble b a) j) i
theorem leI_eq : ∀ i j : Int, decide (i ≤ j) = leI i j
  | .ofNat a, .ofNat b => by
    show _ = Nat.ble a b
    rw [Bool.eq_iff_iff, decide_eq_true_iff, Nat.ble_eq]
    exact Int.ofNat_le
  | .negSucc a, .negSucc b => by
    show _ = Nat.ble b a
    rw [Bool.eq_iff_iff, decide_eq_true_iff, Nat.ble_eq]
    omega
  | .ofNat a, .negSucc b => by
    show _ = false
    rw [decide_eq_false_iff_not]
    show ¬ ((a : Int) ≤ Int.negSucc b)
    omega
  | .negSucc a, .ofNat b => by
    show _ = true
    rw [decide_eq_true_iff]
    show Int.negSucc a ≤ (b : Int)
    omega
def notR (b : Bool) : Bool := Bool.rec (motive := fun _ => Bool) true false b
theorem notR_eq : ∀ b, (!b) = notR b
  | true => rfl
  | false => rfl
theorem z_iLe : iLe = leI := by funext i j; exact leI_eq i j
def ltI (i j : Int) : Bool := notR (leI j i)
theorem z_iLt : iLt = ltI := by
  funext i j
  unfold iLt ltI
  rw [← notR_eq, ← leI_eq, Bool.eq_iff_iff]
  simp
def gtI (i j : Int) : Bool := notR (leI i j)
theorem z_iGt : iGt = gtI := by
  funext i j
  unfold iGt gtI
  rw [← notR_eq, ← leI_eq, Bool.eq_iff_iff]
  simp
def geI (i j : Int) : Bool := leI j i
theorem z_iGe : iGe = geI := by funext i j; exact leI_eq j i
def modI (i j : Int) : Option Int := match i, j with
  | .ofNat a, .ofNat b => match Nat.ble 1 b with
    | true => some (.ofNat (Nat.mod a b))
    | false => none
  | i, j => iMod i j
theorem z_iMod : iMod = modI := by
  funext i j
  match i, j with
  | .ofNat a, .ofNat b =>
    unfold modI iMod
    cases h : Nat.ble 1 b with
    | true =>
      have h1 : 1 ≤ b := Nat.ble_eq.mp h
      simp only [h]
      rw [if_pos (by show (0 : Int) < (b : Int); omega)]
      try rfl
    | false =>
      have h1 : ¬ 1 ≤ b := fun z => by rw [Nat.ble_eq.mpr z] at h; cases h
      simp only [h]
      rw [if_neg (by show ¬ (0 : Int) < (b : Int); omega)]
  | .negSucc a, .ofNat b => rfl
  | .ofNat a, .negSucc b => rfl
  | .negSucc a, .negSucc b => rfl
def divI (i j : Int) : Option Int := match i, j with
  | .ofNat a, .ofNat b => match Nat.ble 1 b with
    | true => match Nat.ble (Nat.log2 b) 8999 with
      | true => some (.ofNat (Nat.div a b))
      | false => iDiv (.ofNat a) (.ofNat b)
    | false => none
  | i, j => iDiv i j
theorem z_iDiv : iDiv = divI := by
  funext i j
  match i, j with
  | .ofNat a, .ofNat b =>
    show iDiv (.ofNat a) (.ofNat b) = match Nat.ble 1 b with
      | true => match Nat.ble (Nat.log2 b) 8999 with
        | true => some (.ofNat (Nat.div a b))
        | false => iDiv (.ofNat a) (.ofNat b)
      | false => none
    cases h : Nat.ble 1 b with
    | true =>
      have h1 : 1 ≤ b := Nat.ble_eq.mp h
      cases h2 : Nat.ble (Nat.log2 b) 8999 with
      | true =>
        have h3 : Nat.log2 b ≤ 8999 := Nat.ble_eq.mp h2
        unfold iDiv
        rw [if_pos ⟨by show (0 : Int) < (b : Int); omega, by show Nat.log2 b < 9000; omega⟩]
        try rfl
      | false => rfl
    | false =>
      have h1 : ¬ 1 ≤ b := fun z => by rw [Nat.ble_eq.mpr z] at h; cases h
      unfold iDiv
      rw [if_neg (fun z => h1 (by have : (0 : Int) < (b : Int) := z.1; omega))]
  | .negSucc a, .ofNat b => rfl
  | .ofNat a, .negSucc b => rfl
  | .negSucc a, .negSucc b => rfl
def mulI (i j : Int) : Option Int := match i, j with
  | .ofNat a, .ofNat b => match Nat.ble (Nat.add (Nat.log2 a) (Nat.log2 b)) 999999 with
      | true => some (.ofNat (Nat.mul a b))
      | false => none
  | i, j => iMul i j
theorem z_iMul : iMul = mulI := by
  funext i j
  match i, j with
  | .ofNat a, .ofNat b =>
    show iMul (.ofNat a) (.ofNat b) = match Nat.ble (Nat.add (Nat.log2 a) (Nat.log2 b)) 999999 with
      | true => some (.ofNat (Nat.mul a b))
      | false => none
    unfold iMul
    cases h : Nat.ble (Nat.add (Nat.log2 a) (Nat.log2 b)) 999999 with
    | true =>
      have h1 : Nat.log2 a + Nat.log2 b ≤ 999999 := Nat.ble_eq.mp h
      rw [if_pos (by show Nat.log2 a + Nat.log2 b < 1000000; omega)]
      try rfl
    | false =>
      have h1 : ¬ Nat.log2 a + Nat.log2 b ≤ 999999 := fun z => by
        have : Nat.ble (Nat.add (Nat.log2 a) (Nat.log2 b)) 999999 = true := Nat.ble_eq.mpr z
        rw [this] at h; cases h
      rw [if_neg (by show ¬ Nat.log2 a + Nat.log2 b < 1000000; omega)]
  | .negSucc a, .ofNat b => rfl
  | .ofNat a, .negSucc b => rfl
  | .negSucc a, .negSucc b => rfl
def atF {α : Type} (xs : List α) (i : Int) : Option α := Int.rec (motive := fun _ => Option α) (fun n => getR xs n) (fun m => match Nat.ble (Nat.add m 1) (lenR xs) with
  | true => getR xs (Nat.sub (lenR xs) (Nat.add m 1))
  | false => none) i
theorem atF_eq {α : Type} (xs : List α) : ∀ i : Int, atI xs i = atF xs i
  | .ofNat n => by
    show atI xs (n : Int) = getR xs n
    rw [← getR_eq]
    unfold atI ixN
    rw [if_pos (by omega)]
    by_cases h : n < xs.length
    · rw [if_pos (by omega)]; simp
    · rw [if_neg (by omega), List.getElem?_eq_none (by omega)] <;> rfl
  | .negSucc m => by
    show atI xs (.negSucc m) = match Nat.ble (Nat.add m 1) (lenR xs) with
      | true => getR xs (Nat.sub (lenR xs) (Nat.add m 1))
      | false => none
    rw [← lenR_eq]
    unfold atI ixN
    rw [if_neg (by omega)]
    cases h : Nat.ble (Nat.add m 1) xs.length with
    | true =>
      have h1 : m + 1 ≤ xs.length := Nat.ble_eq.mp h
      rw [if_pos (by omega), Option.bind_some, ← getR_eq]
      show xs[((Int.negSucc m) + (xs.length : Int)).toNat]? = xs[xs.length - (m + 1)]?
      congr 1
      omega
    | false =>
      have h1 : ¬ m + 1 ≤ xs.length := fun z => by
        have : Nat.ble (Nat.add m 1) xs.length = true := Nat.ble_eq.mpr z
        rw [this] at h; cases h
      rw [if_neg (by omega)] <;> rfl
def allIn (l : List PD) : Bool := List.rec (motive := fun _ => Bool) true (fun d _ ih => match d with
  | .int _ => ih
  | _ => false) l
theorem allIn_ints : ∀ {l : List PD}, allIn l = true → ∃ ns : List Int, l = ns.map .int
  | [], _ => ⟨[], rfl⟩
  | d :: l, h => by
    cases d <;> first | (cases h; done) | skip
    case int i =>
      obtain ⟨ns, rfl⟩ := allIn_ints (l := l) h
      exact ⟨i :: ns, rfl⟩
def memR (a : Int) (l : List PD) : Bool := List.rec (motive := fun _ => Bool) false (fun d _ ih => match d with
  | .int b => match eqI b a with
    | true => true
    | false => ih
  | _ => ih) l
theorem memR_eq (a : Int) : ∀ ns : List Int, (ns.map PyData.int).any (fun y => eqD y (.int a)) = memR a (ns.map PyData.int)
  | [] => rfl
  | n :: ns => by
    rw [List.map_cons, List.any_cons, memR_eq a ns]
    show ((n == a) || _) = match eqI n a with
      | true => true
      | false => memR a (ns.map PyData.int)
    rw [eqI_eq]
    cases eqI n a <;> rfl
def z_hIn (neg : Bool) (x : PD) (y : PD) : Option Rs := match x, y with
  | .int a, .list l => match allIn l with
    | true => some (.val (.bool (match neg with | true => notR (memR a l) | false => memR a l)))
    | false => hIn neg (.int a) (.list l)
  | .int a, .tuple l => match allIn l with
    | true => some (.val (.bool (match neg with | true => notR (memR a l) | false => memR a l)))
    | false => hIn neg (.int a) (.tuple l)
  | x, y => hIn neg x y
theorem flat_ints : ∀ ns : List Int, (ns.map PyData.int).all flatD = true
  | [] => rfl
  | n :: ns => by rw [List.map_cons, List.all_cons, flat_ints ns] <;> rfl
theorem hIn_z : hIn = z_hIn := by
  funext neg x y
  unfold z_hIn
  split
  · rename_i a l
    split
    · rename_i h
      obtain ⟨ns, rfl⟩ := allIn_ints h
      show (if flatD (.int a) = true ∧ (ns.map PyData.int).all flatD = true then some (Rs.val (.bool (if neg then !((ns.map PyData.int).any fun y => eqD y (.int a)) else (ns.map PyData.int).any fun y => eqD y (.int a)))) else none) = _
      rw [if_pos ⟨rfl, flat_ints ns⟩, memR_eq]
      cases neg
      · rfl
      · rw [if_pos rfl, notR_eq]
    · rfl
  · rename_i a l
    split
    · rename_i h
      obtain ⟨ns, rfl⟩ := allIn_ints h
      show (if flatD (.int a) = true ∧ (ns.map PyData.int).all flatD = true then some (Rs.val (.bool (if neg then !((ns.map PyData.int).any fun y => eqD y (.int a)) else (ns.map PyData.int).any fun y => eqD y (.int a)))) else none) = _
      rw [if_pos ⟨rfl, flat_ints ns⟩, memR_eq]
      cases neg
      · rfl
      · rw [if_pos rfl, notR_eq]
    · rfl
  · rfl
def eqL (l m : List PD) : Bool := List.rec (motive := fun _ => List PD → Bool) (fun m => match m with | [] => true | _ => false) (fun d _ ih m => match d, m with
  | .int a, .int b :: m => match eqI a b with
    | true => ih m
    | false => false
  | _, _ => false) l m
theorem eqL_eq : ∀ ns ms : List Int, PyData.eqvAll (ns.map PyData.int) (ms.map PyData.int) = eqL (ns.map PyData.int) (ms.map PyData.int)
  | [], [] => by simp [PyData.eqvAll] <;> rfl
  | [], m :: ms => by simp [PyData.eqvAll] <;> rfl
  | n :: ns, [] => by simp [PyData.eqvAll] <;> rfl
  | n :: ns, m :: ms => by
    show PyData.eqvAll (.int n :: ns.map PyData.int) (.int m :: ms.map PyData.int) = match eqI n m with
      | true => eqL (ns.map PyData.int) (ms.map PyData.int)
      | false => false
    rw [← eqL_eq ns ms, ← eqI_eq]
    simp only [PyData.eqvAll, PyData.eqv]
    cases n == m <;> rfl
theorem shaped_i (i : Int) : SeqAt.shaped (.int i) = true := by
  unfold SeqAt.shaped
  simp [PyData.canLay0, PyData.depth]
theorem lay_i : ∀ xs : List Int, PyData.canLayAll0 (xs.map PyData.int) = true
  | [] => by simp [PyData.canLayAll0]
  | x :: xs => by
    show PyData.canLayAll0 (.int x :: xs.map PyData.int) = true
    simp [PyData.canLayAll0, PyData.canLay0, lay_i xs]
theorem dep_i : ∀ xs : List Int, PyData.depthAll (xs.map PyData.int) = 0
  | [] => by simp [PyData.depthAll]
  | x :: xs => by
    show PyData.depthAll (.int x :: xs.map PyData.int) = 0
    simp [PyData.depthAll, PyData.depth, dep_i xs]
theorem shaped_l (xs : List Int) : SeqAt.shaped (.list (xs.map PyData.int)) = true := by
  unfold SeqAt.shaped
  simp [PyData.canLay0, PyData.depth, lay_i, dep_i]
theorem shaped_t (xs : List Int) : SeqAt.shaped (.tuple (xs.map PyData.int)) = true := by
  unfold SeqAt.shaped
  simp [PyData.canLay0, PyData.depth, lay_i, dep_i]
def sg (neg b : Bool) : Bool := match neg with | true => notR b | false => b
theorem sg_eq (neg b : Bool) : (if neg = true then !b else b) = sg neg b := by cases neg <;> cases b <;> rfl
def z_hEq (neg : Bool) (x y : PD) : Option Rs := match x, y with
  | .int a, .int b => some (.val (.bool (sg neg (eqI a b))))
  | .list l, .list m => match allIn l with
    | true => match allIn m with
      | true => some (.val (.bool (sg neg (eqL l m))))
      | false => hEq neg (.list l) (.list m)
    | false => hEq neg (.list l) (.list m)
  | .tuple l, .tuple m => match allIn l with
    | true => match allIn m with
      | true => some (.val (.bool (sg neg (eqL l m))))
      | false => hEq neg (.tuple l) (.tuple m)
    | false => hEq neg (.tuple l) (.tuple m)
  | x, y => hEq neg x y
theorem hEq_z : hEq = z_hEq := by
  funext neg x y
  unfold z_hEq
  split
  · rename_i a b
    unfold hEq
    rw [if_pos ⟨shaped_i a, shaped_i b⟩, sg_eq, ← eqI_eq]
    simp only [PyData.eqv]
  · rename_i l m
    split
    · rename_i h1
      split
      · rename_i h2
        obtain ⟨ns, rfl⟩ := allIn_ints h1
        obtain ⟨ms, rfl⟩ := allIn_ints h2
        unfold hEq
        rw [if_pos ⟨shaped_l ns, shaped_l ms⟩, sg_eq, ← eqL_eq]
        simp only [PyData.eqv]
      · rfl
    · rfl
  · rename_i l m
    split
    · rename_i h1
      split
      · rename_i h2
        obtain ⟨ns, rfl⟩ := allIn_ints h1
        obtain ⟨ms, rfl⟩ := allIn_ints h2
        unfold hEq
        rw [if_pos ⟨shaped_t ns, shaped_t ms⟩, sg_eq, ← eqL_eq]
        simp only [PyData.eqv]
      · rfl
    · rfl
  · rfl
def z_hIx : PD → PD → Option Rs
  | .list l, .int i => match atF l i with | some d => some (.val d) | none => none
  | .tuple l, .int i => match atF l i with | some d => some (.val d) | none => none
  | _, _ => none
theorem hIx_z : hIx = z_hIx := by
  funext x y
  cases x <;> cases y <;> first | rfl | skip
  · rename_i l i
    show (atI l i).map Rs.val = match atF l i with | some d => some (Rs.val d) | none => none
    rw [atF_eq]; cases atF l i <;> rfl
  · rename_i l i
    show (atI l i).map Rs.val = match atF l i with | some d => some (Rs.val d) | none => none
    rw [atF_eq]; cases atF l i <;> rfl
def z_hAdd (x y : PD) : Option Rs := match x, y with
  | .int i, .int j => some (.val (.int (Int.add i j)))
  | .list l, .list m => match Nat.ble (Nat.add (lenR l) (lenR m)) 16777216 with
    | true => some (.new (appR l m))
    | false => none
  | .tuple l, .tuple m => match Nat.ble (Nat.add (lenR l) (lenR m)) 16777216 with
    | true => some (.val (.tuple (appR l m)))
    | false => none
  | _, _ => none
theorem ble_if {α : Type} {n m : Nat} {a b : α} : (if n ≤ m then a else b) = match Nat.ble n m with | true => a | false => b := by
  cases h : Nat.ble n m with
  | true => rw [if_pos (Nat.ble_eq.mp h)]
  | false => rw [if_neg fun z => by rw [Nat.ble_eq.mpr z] at h; cases h]
theorem hAdd_z : hAdd = z_hAdd := by
  funext x y
  cases x <;> cases y <;> first | rfl | skip
  · rename_i l m
    unfold hAdd z_hAdd
    simp only [sizeLine_eq]
    rw [ble_if, lenR_eq, lenR_eq, appR_eq] <;> rfl
  · rename_i l m
    unfold hAdd z_hAdd
    simp only [sizeLine_eq]
    rw [ble_if, lenR_eq, lenR_eq, appR_eq] <;> rfl
def z_hLen : PD → Option Rs
  | .list l => some (.val (.int (.ofNat (lenR l))))
  | .tuple l => some (.val (.int (.ofNat (lenR l))))
  | _ => none
theorem hLen_z : hLen = z_hLen := by
  funext x
  cases x <;> first | rfl | skip
  · rename_i l
    show some (Rs.val (.int (l.length : Int))) = some (Rs.val (.int (.ofNat (lenR l))))
    rw [lenR_eq] <;> rfl
  · rename_i l
    show some (Rs.val (.int (l.length : Int))) = some (Rs.val (.int (.ofNat (lenR l))))
    rw [lenR_eq] <;> rfl
end
end Fz
set_option Elab.async false
set_option linter.all false
set_option maxRecDepth 100000
set_option maxHeartbeats 4000000
namespace Fz
open PySem PySem.Spec PyProof.Rows L2 Gq Dv Lw
noncomputable section
def pkF (r : Rs) (ρ : Rho) : Option PD := match r with
  | .val d => some d
  | .new l => some (.list l)
  | .slot i => match getR ρ i with
    | some (.val d) => some d
    | some (.own _ l) => some (.list l)
    | _ => none
theorem pk_z : pk = pkF := by
  funext r ρ
  cases r <;> first | rfl | skip
  rename_i i
  show (match ρ[i]? with
    | some (.val d) => some d
    | some (.own _ l) => some (PyData.list l)
    | _ => none) = match getR ρ i with
    | some (.val d) => some d
    | some (.own _ l) => some (PyData.list l)
    | _ => none
  rw [getR_eq]
def fznF : Rs → Rho → Option (PD × Rho)
  | .val d, ρ => some (d, ρ)
  | .new l, ρ => some (.list l, ρ)
  | .slot i, ρ => match getR ρ i with
    | some (.val d) => some (d, ρ)
    | some (.own false l) => some (.list l, putR ρ i (.val (.list l)))
    | _ => none
theorem fzn_z : fzn = fznF := by
  funext r ρ
  cases r <;> first | rfl | skip
  rename_i i
  show (match ρ[i]? with
    | some (.val d) => some (d, ρ)
    | some (.own false l) => some (PyData.list l, ρ.set i (.val (.list l)))
    | _ => none) = match getR ρ i with
    | some (.val d) => some (d, ρ)
    | some (.own false l) => some (PyData.list l, putR ρ i (.val (.list l)))
    | _ => none
  rw [getR_eq]
  split <;> first | rfl | (rw [putR_eq])
def z_fVal (f : Ev) : Ev := fun ρ => (f ρ).bind fun p => (fznF p.1 p.2).map fun q => (.val q.1, q.2)
theorem fVal_z : fVal = z_fVal := by funext f; unfold fVal z_fVal; rw [fzn_z]
def isF (n : Nat) : PD → Option Bool
  | .none => some false
  | .bool _ => some (match n with | 0 => true | 1 => true | _ => false)
  | .int _ => some (match n with | 0 => true | _ => false)
  | .str _ => some (match n with | 2 => true | _ => false)
  | .list _ => some (match n with | 3 => true | _ => false)
  | .tuple _ => some (match n with | 4 => true | _ => false)
  | .dict _ => none
theorem isi_z (T : String) (n : Nat) (h0 : kitB "NoneType" T = isF n .none) (h1 : kitB "bool" T = isF n (.bool true)) (h2 : kitB "int" T = isF n (.int 0)) (h3 : kitB "str" T = isF n (.str "")) (h4 : kitB "list" T = isF n (.list [])) (h5 : kitB "tuple" T = isF n (.tuple [])) : isiD T = isF n := by
  funext d
  cases d with
  | none => exact h0
  | bool b => exact h1
  | int i => exact h2
  | str x => exact h3
  | list l => exact h4
  | tuple l => exact h5
  | dict _ => rfl
theorem isi_int : isiD "int" = isF 0 := isi_z _ 0 (by decide +kernel) (by decide +kernel) (by decide +kernel) (by decide +kernel) (by decide +kernel) (by decide +kernel)
theorem isi_bool : isiD "bool" = isF 1 := isi_z _ 1 (by decide +kernel) (by decide +kernel) (by decide +kernel) (by decide +kernel) (by decide +kernel) (by decide +kernel)
theorem isi_list : isiD "list" = isF 3 := isi_z _ 3 (by decide +kernel) (by decide +kernel) (by decide +kernel) (by decide +kernel) (by decide +kernel) (by decide +kernel)
theorem isi_tuple : isiD "tuple" = isF 4 := isi_z _ 4 (by decide +kernel) (by decide +kernel) (by decide +kernel) (by decide +kernel) (by decide +kernel) (by decide +kernel)
def isTL : PD → Option Bool
  | .list _ => some true
  | .tuple _ => some true
  | .dict _ => none
  | _ => some false
def z_fIsTL (f : Ev) : Ev := fun ρ => (f ρ).bind fun p => (pkF p.1 p.2).bind fun d => (isTL d).map fun b => (.val (.bool b), p.2)
theorem fIsTL_z (f : Ev) : fIsiA ["tuple", "list"] f = z_fIsTL f := by
  unfold fIsiA z_fIsTL
  rw [pk_z]
  funext ρ
  congr 1
  funext p
  congr 1
  funext d
  unfold isiA isiA isiA
  rw [isi_tuple, isi_list]
  cases d <;> rfl
def cntR (a : Int) (l : List PD) : Nat := List.rec (motive := fun _ => Nat) 0 (fun d _ ih => match d with
  | .int b => match eqI b a with
    | true => Nat.add ih 1
    | false => ih
  | _ => ih) l
theorem cntR_eq (a : Int) : ∀ ns : List Int, ns.count a = cntR a (ns.map PyData.int)
  | [] => rfl
  | n :: ns => by
    rw [List.count_cons, cntR_eq a ns, ← eqI_eq' n a]
    show _ = match eqI n a with
      | true => Nat.add (cntR a (ns.map PyData.int)) 1
      | false => cntR a (ns.map PyData.int)
    cases eqI n a <;> rfl
where eqI_eq' (n a : Int) : eqI n a = (n == a) := (eqI_eq n a).symm
def z_hCnt (d : PD) (k : PD) : Option Rs := match d, k with
  | .list l, .int i => match allIn l with | true => some (.val (.int (.ofNat (cntR i l)))) | false => hCnt (.list l) (.int i)
  | .tuple l, .int i => match allIn l with | true => some (.val (.int (.ofNat (cntR i l)))) | false => hCnt (.tuple l) (.int i)
  | _, _ => none
theorem hCnt_z : hCnt = z_hCnt := by
  funext d k
  cases d <;> cases k <;> first | rfl | skip
  · rename_i l i
    show hCnt (.list l) (.int i) = match allIn l with | true => some (.val (.int (.ofNat (cntR i l)))) | false => hCnt (.list l) (.int i)
    cases h : allIn l with
    | false => rfl
    | true =>
      obtain ⟨ns, rfl⟩ := allIn_ints h
      show (intsOf (ns.map .int)).map _ = _
      rw [intsOf_ints, ← cntR_eq] <;> rfl
  · rename_i l i
    show hCnt (.tuple l) (.int i) = match allIn l with | true => some (.val (.int (.ofNat (cntR i l)))) | false => hCnt (.tuple l) (.int i)
    cases h : allIn l with
    | false => rfl
    | true =>
      obtain ⟨ns, rfl⟩ := allIn_ints h
      show (intsOf (ns.map .int)).map _ = _
      rw [intsOf_ints, ← cntR_eq] <;> rfl
def z_hIsN (d : PD) (e : PD) : Option Rs := match e with
  | .none => match d with
    | .none => some (.val (.bool true))
    | .dict _ => none
    | _ => some (.val (.bool false))
  | _ => none
theorem hIsN_z : hIsN = z_hIsN := by
  funext d e
  cases e <;> first | rfl | skip
  cases d <;> first | rfl | (show some (Rs.val (.bool _)) = some (Rs.val (.bool _)); congr 3)
end
end Fz
set_option Elab.async false
set_option linter.all false
set_option maxRecDepth 100000
set_option maxHeartbeats 4000000
namespace Fz
open PySem PySem.Spec PyProof.Rows L2 Gq Dv Lw
noncomputable section
theorem ble_t {n m : Nat} (h : n ≤ m) : Nat.ble n m = true := Nat.ble_eq.mpr h
theorem ble_f {n m : Nat} (h : ¬ n ≤ m) : Nat.ble n m = false := by
  cases e : Nat.ble n m with
  | false => rfl
  | true => exact absurd (Nat.ble_eq.mp e) h
def upR (n : Nat) : Nat → List PD := Nat.rec (motive := fun _ => Nat → List PD) (fun _ => []) (fun _ ih s => .int (.ofNat s) :: ih (Nat.add s 1)) n
theorem upR_eq : ∀ (n s : Nat), rngL (s : Int) n = upR n s
  | 0, _ => rfl
  | n + 1, s => by
    show _ = .int (.ofNat s) :: upR n (s + 1)
    rw [← upR_eq n (s + 1)]
    unfold rngL
    rw [List.range_succ_eq_map, List.map_cons, List.map_map]
    have t : List.map ((fun (k : Nat) => PyData.int ((s : Int) + (k : Int))) ∘ Nat.succ) (List.range n) = List.map (fun (k : Nat) => PyData.int (((s + 1 : Nat) : Int) + (k : Int))) (List.range n) := List.map_congr_left fun k _ => by
      show PyData.int ((s : Int) + ((k + 1 : Nat) : Int)) = .int (((s + 1 : Nat) : Int) + (k : Int))
      congr 1
      omega
    rw [t] <;> rfl
def rgR (lo : Int) (n : Nat) : List PD := match lo with
  | .ofNat s => upR n s
  | .negSucc k => match k, n with
    | 0, n + 1 => .int (.negSucc 0) :: upR n 0
    | _, _ => rngL lo n
theorem rgR_eq (lo : Int) (n : Nat) : rngL lo n = rgR lo n := by
  unfold rgR
  split
  · exact upR_eq n _
  · split
    · rename_i m
      rw [← upR_eq]
      unfold rngL
      rw [List.range_succ_eq_map, List.map_cons, List.map_map]
      have t : List.map ((fun (k : Nat) => PyData.int (Int.negSucc 0 + (k : Int))) ∘ Nat.succ) (List.range m) = List.map (fun (k : Nat) => PyData.int (((0 : Nat) : Int) + (k : Int))) (List.range m) := List.map_congr_left fun k _ => by
        show PyData.int (Int.negSucc 0 + ((k + 1 : Nat) : Int)) = .int (((0 : Nat) : Int) + (k : Int))
        congr 1
        omega
      rw [t] <;> rfl
    · rfl
def smI (i : Int) : Bool := match i with
  | .ofNat n => Nat.ble n 1000000
  | .negSucc n => Nat.ble n 1000000
theorem smI_ok {i : Int} (h : smI i = true) : -1000001 ≤ i ∧ i ≤ 1000000 := by
  cases i with
  | ofNat n =>
    have : n ≤ 1000000 := Nat.ble_eq.mp h
    have e : Int.ofNat n = (n : Int) := rfl
    omega
  | negSucc n =>
    have : n ≤ 1000000 := Nat.ble_eq.mp h
    omega
def subN (j i : Int) : Nat := match i, j with
  | .ofNat a, .ofNat b => Nat.sub b a
  | i, j => (j - i).toNat
theorem subN_eq (j i : Int) : (j - i).toNat = subN j i := by
  unfold subN
  split
  · rename_i a b
    show ((b : Int) - (a : Int)).toNat = b - a
    omega
  · rfl
def z_iRng1 (fs : Ea) : Ea := fun ρ => (fs ρ).bind fun q => match q.1 with
  | [.int j] => match smI j with
    | true => some (rgR 0 (subN j 0), q.2)
    | false => Dv.iRng1 fs ρ
  | _ => none
theorem iRng1_z : Dv.iRng1 = z_iRng1 := by
  funext fs ρ
  unfold z_iRng1
  cases e : fs ρ with
  | none => unfold Dv.iRng1; rw [e] <;> rfl
  | some q =>
    obtain ⟨ds, ρ1⟩ := q
    rw [Option.bind_some]
    split
    · rename_i j hj
      split
      · rename_i h
        have hj' : ds = [.int j] := hj
        subst hj'
        have hs := smI_ok h
        unfold Dv.iRng1
        rw [e, Option.bind_some]
        show (if _ then _ else _) = _
        rw [if_pos (by omega), ← subN_eq, ← rgR_eq, Int.sub_zero]
      · rfl
    · rename_i h
      unfold Dv.iRng1
      rw [e, Option.bind_some]
      split
      · rename_i j hj
        exact absurd hj (h j)
      · rfl
def z_iRng2 (fs : Ea) : Ea := fun ρ => (fs ρ).bind fun q => match q.1 with
  | [.int i, .int j] => match smI i with
    | true => match smI j with
      | true => some (rgR i (subN j i), q.2)
      | false => Dv.iRng2 fs ρ
    | false => Dv.iRng2 fs ρ
  | _ => none
theorem iRng2_z : Dv.iRng2 = z_iRng2 := by
  funext fs ρ
  unfold z_iRng2
  cases e : fs ρ with
  | none => unfold Dv.iRng2; rw [e] <;> rfl
  | some q =>
    obtain ⟨ds, ρ1⟩ := q
    rw [Option.bind_some]
    split
    · rename_i i j hj
      split
      · rename_i h
        split
        · rename_i h2
          have hj' : ds = [.int i, .int j] := hj
          subst hj'
          have hs := smI_ok h
          have hs2 := smI_ok h2
          unfold Dv.iRng2
          rw [e, Option.bind_some]
          show (if _ then _ else _) = _
          rw [if_pos (by omega), ← subN_eq, ← rgR_eq]
        · rfl
      · rfl
    · rename_i h
      unfold Dv.iRng2
      rw [e, Option.bind_some]
      split
      · rename_i i j hj
        exact absurd hj (h i j)
      · rfl
def z_fRg (lo hi : Int) : Option Rs := match smI lo with
  | true => match smI hi with
    | true => match Nat.ble (subN hi lo) 16777216 with
      | true => some (.new (rgR lo (subN hi lo)))
      | false => none
    | false => fRg lo hi
  | false => fRg lo hi
theorem fRg_z : fRg = z_fRg := by
  funext lo hi
  unfold z_fRg
  split
  · rename_i h
    split
    · rename_i h2
      have hs := smI_ok h
      have hs2 := smI_ok h2
      unfold fRg
      rw [← subN_eq, ← rgR_eq]
      by_cases z : (hi - lo).toNat ≤ 16777216
      · rw [if_pos (by omega), ble_t z]
      · rw [if_neg (by omega), ble_f z]
    · rfl
  · rfl
def z_fRgT (lo hi : Int) : Option Rs := match smI lo with
  | true => match smI hi with
    | true => match Nat.ble (subN hi lo) 16777216 with
      | true => some (.val (.tuple (rgR lo (subN hi lo))))
      | false => none
    | false => fRgT lo hi
  | false => fRgT lo hi
theorem fRgT_z : fRgT = z_fRgT := by
  funext lo hi
  unfold z_fRgT
  split
  · rename_i h
    split
    · rename_i h2
      have hs := smI_ok h
      have hs2 := smI_ok h2
      unfold fRgT
      rw [← subN_eq, ← rgR_eq]
      by_cases z : (hi - lo).toNat ≤ 16777216
      · rw [if_pos (by omega), ble_t z]
      · rw [if_neg (by omega), ble_f z]
    · rfl
  · rfl
def z_cApp (i : Nat) (f : Ev) : Es := fun ρ => match getR ρ i with
  | some (.own _ _) => (z_fVal f ρ).bind fun q => match q.1, getR q.2 i with
    | .val d, some (.own bo l) => match Nat.ble (Nat.add (lenR l) 1) 16777216 with
      | true => some (.nx (putR q.2 i (.own bo (appR l [d]))))
      | false => none
    | _, _ => none
  | _ => none
theorem cApp_z : cApp = z_cApp := by
  funext i f ρ
  unfold cApp z_cApp
  have h : ∀ {α : Type} (n : Nat) (a b : α), (if n < sizeLine then a else b) = match Nat.ble (Nat.add n 1) 16777216 with | true => a | false => b := fun n a b => by
    by_cases z : n < sizeLine
    · rw [if_pos z, ble_t (by rw [sizeLine_eq] at z; exact z)]
    · rw [if_neg z, ble_f (by rw [sizeLine_eq] at z; exact z)]
  simp only [getR_eq, fVal_z, h, lenR_eq, putR_eq, appR_eq]
  try rfl
end
end Fz
set_option Elab.async false
set_option linter.all false
set_option maxRecDepth 100000
set_option maxHeartbeats 4000000
namespace Fz
open PySem PySem.Spec PyProof.Rows L2 Gq Dv Lw
end Fz
set_option Elab.async false
set_option linter.all false
set_option maxRecDepth 100000
set_option maxHeartbeats 4000000
namespace Fz
open PySem PySem.Spec PyProof.Rows L2 Gq Dv Lw
end Fz
set_option Elab.async false
set_option linter.all false
set_option maxRecDepth 100000
set_option maxHeartbeats 4000000
namespace Fz
open PySem PySem.Spec PyProof.Rows L2 Gq Dv Lw
end Fz
set_option Elab.async false
set_option linter.all false
set_option maxRecDepth 100000
set_option maxHeartbeats 4000000
namespace Gd
open PySem PySem.Spec PyProof.Rows L2 Gq Dv Lw Fz
noncomputable section
def EvV (f : Ev) (ρ : Rho) (E : Option PD) : Prop := ∀ d, E = some d → f ρ = some (.val d, ρ)
def EvN (f : Ev) (ρ : Rho) (E : Option (List PD)) : Prop := ∀ l, E = some l → f ρ = some (.new l, ρ)
def EvP (f : Ev) (ρ : Rho) (E : Option PD) : Prop := ∀ d, E = some d → ∃ r, f ρ = some (r, ρ) ∧ pk r ρ = some d
def EvF (f : Ev) (ρ : Rho) (E : Option PD) (ρ' : Rho) : Prop := ∀ d, E = some d → fVal f ρ = some (.val d, ρ')
def EvA (f : Ea) (ρ : Rho) (E : Option (List PD)) (ρ' : Rho) : Prop := ∀ l, E = some l → f ρ = some (l, ρ')
def EvT (g : Et) (ρ : Rho) (T : Option Bool) : Prop := ∀ b, T = some b → g ρ = some (b, ρ)
def xL (E : Option (List PD)) : Option PD := match E with | some l => some (.list l) | none => none
theorem xL_some {E : Option (List PD)} {d : PD} (h : xL E = some d) : ∃ l, E = some l ∧ d = .list l := by
  cases E with
  | none => cases h
  | some l => cases h; exact ⟨l, rfl, rfl⟩
section
variable {f f1 f2 f3 : Ev} {fs : Ea} {g g1 g2 : Et} {ρ ρ1 ρ2 : Rho} {E E1 E2 E3 : Option PD} {L : Option (List PD)} {T T1 T2 : Option Bool} {d : PD} {i : Nat} {l : List PD}
theorem EvV.p (h : EvV f ρ E) : EvP f ρ E := fun d e => ⟨_, h d e, rfl⟩
theorem EvN.p (h : EvN f ρ L) : EvP f ρ (xL L) := fun d e => by
  obtain ⟨l, e1, rfl⟩ := xL_some e
  exact ⟨_, h l e1, rfl⟩
theorem EvV.fz (h : EvV f ρ E) : EvF f ρ E ρ := fun d e => val_v (h d e)
theorem EvN.fz (h : EvN f ρ L) : EvF f ρ (xL L) ρ := fun d e => by
  obtain ⟨l, e1, rfl⟩ := xL_some e
  exact val_eq (h l e1) rfl
theorem ev_loc (h : ρ[i]? = some (.val d)) : EvV (fLoc i) ρ (some d) := fun d' e => by
  cases e
  unfold fLoc
  rw [h]
theorem ev_own {bo : Bool} (h : ρ[i]? = some (.own bo l)) : EvP (fLoc i) ρ (some (.list l)) := fun d' e => by
  cases e
  refine ⟨.slot i, ?_, ?_⟩
  · unfold fLoc; rw [h]
  · simp only [pk, h]
theorem ev_frz (h : ρ[i]? = some (.own false l)) : EvF (fLoc i) ρ (some (.list l)) (ρ.set i (.val (.list l))) := fun d' e => by
  cases e
  refine val_eq (r := .slot i) (ρ1 := ρ) ?_ ?_
  · unfold fLoc; rw [h]
  · simp only [fzn, h]
theorem ev_cst : EvV (fCst d) ρ (some d) := fun d' e => by cases e <;> rfl
def oV (o : Option Rs) : Option PD := match o with | some (.val d) => some d | _ => none
def oN (o : Option Rs) : Option (List PD) := match o with | some (.new l) => some l | _ => none
theorem oV_some {o : Option Rs} {d : PD} (h : oV o = some d) : o = some (.val d) := by
  unfold oV at h
  split at h <;> first | (cases h; rfl) | cases h
theorem oN_some {o : Option Rs} {l : List PD} (h : oN o = some l) : o = some (.new l) := by
  unfold oN at h
  split at h <;> first | (cases h; rfl) | cases h
def x2 {α : Type} (E1 E2 : Option PD) (k : PD → PD → Option α) : Option α := match E1 with
  | some a => match E2 with
    | some b => k a b
    | none => none
  | none => none
theorem x2_some {α : Type} {k : PD → PD → Option α} {r : α} (h : x2 E1 E2 k = some r) : ∃ a b, E1 = some a ∧ E2 = some b ∧ k a b = some r := by
  unfold x2 at h
  cases E1 with
  | none => cases h
  | some a =>
    cases E2 with
    | none => cases h
    | some b => exact ⟨a, b, rfl, rfl, h⟩
def x1 {α β : Type} (E : Option α) (k : α → Option β) : Option β := match E with | some a => k a | none => none
theorem x1_some {α β : Type} {E : Option α} {k : α → Option β} {r : β} (h : x1 E k = some r) : ∃ a, E = some a ∧ k a = some r := by
  cases E with
  | none => cases h
  | some a => exact ⟨a, rfl, h⟩
def xBin (z : PD → PD → Option Rs) (E1 E2 : Option PD) : Option PD := x2 E1 E2 fun a b => oV (z a b)
def xBinN (z : PD → PD → Option Rs) (E1 E2 : Option PD) : Option (List PD) := x2 E1 E2 fun a b => oN (z a b)
def xUn (z : PD → Option Rs) (E : Option PD) : Option PD := x1 E fun a => oV (z a)
def xUnN (z : PD → Option Rs) (E : Option PD) : Option (List PD) := x1 E fun a => oN (z a)
def xIsi (n : Nat) (E : Option PD) : Option PD := x1 E fun a => x1 (isF n a) fun b => some (.bool b)
def xIsTL (E : Option PD) : Option PD := x1 E fun a => x1 (isTL a) fun b => some (.bool b)
def xChain (z1 z2 : PD → PD → Option Rs) (E1 E2 E3 : Option PD) : Option PD := x2 E1 E2 fun a b => x1 (oV (z1 a b)) fun k => match k with
      | .bool true => x1 E3 fun c => oV (z2 b c)
      | .bool false => some (.bool false)
      | _ => none
def xAnd (E1 E2 : Option PD) : Option PD := x1 E1 fun k => match k with | .bool true => E2 | .bool false => some (.bool false) | _ => none
def xOr (E1 E2 : Option PD) : Option PD := x1 E1 fun k => match k with | .bool false => E2 | .bool true => some (.bool true) | _ => none
def xNot (E : Option PD) : Option PD := x1 E fun k => match k with | .bool b => some (.bool (notR b)) | _ => none
def xIf {α : Type} (T : Option Bool) (E1 E2 : Option α) : Option α := x1 T fun b => match b with | true => E1 | false => E2
def tNot (T : Option Bool) : Option Bool := x1 T fun b => some (notR b)
def tAnd (T1 T2 : Option Bool) : Option Bool := x1 T1 fun b => match b with | true => T2 | false => some false
def tOr (T1 T2 : Option Bool) : Option Bool := x1 T1 fun b => match b with | true => some true | false => T2
def xApp (h : List PD → Option Rs) (L : Option (List PD)) : Option PD := x1 L fun l => oV (h l)
def xCnt (E1 E2 : Option PD) : Option PD := x2 E1 E2 fun a b => oV (z_hCnt a b)
def xListR1 (E : Option PD) : Option (List PD) := x1 E fun d => match d with | .int j => oN (z_fRg 0 j) | _ => none
def xTupR1 (E : Option PD) : Option PD := x1 E fun d => match d with | .int j => oV (z_fRgT 0 j) | _ => none
def xOs (E : Option PD) : Option (Option Int) := x1 E fun d => match d with | .int i => some (some i) | _ => none
def xSl (E : Option PD) (A B : Option (Option Int)) : Option PD := x1 E fun d => x1 A fun a => x1 B fun b => oV (hSl d a b)
def xSlN (E : Option PD) (A B : Option (Option Int)) : Option (List PD) := x1 E fun d => x1 A fun a => x1 B fun b => oN (hSl d a b)
def xR1 (L : Option (List PD)) : Option (List PD) := x1 L fun l => match l with | [.int j] => (match smI j with | true => some (rgR 0 (subN j 0)) | false => none) | _ => none
def xR2 (L : Option (List PD)) : Option (List PD) := x1 L fun l => match l with | [.int i, .int j] => (match smI i with | true => (match smI j with | true => some (rgR i (subN j i)) | false => none) | false => none) | _ => none
def q0 (k : Option PD) : Fn0 := fun ds => match ds with | [] => k | _ => none
def q1 (k : PD → Option PD) : Fn0 := fun ds => match ds with | [a] => k a | _ => none
def q2 (k : PD → PD → Option PD) : Fn0 := fun ds => match ds with | [a, b] => k a b | _ => none
def q3 (k : PD → PD → PD → Option PD) : Fn0 := fun ds => match ds with | [a, b, c] => k a b c | _ => none
def q4 (k : PD → PD → PD → PD → Option PD) : Fn0 := fun ds => match ds with | [a, b, c, d] => k a b c d | _ => none
def q5 (k : PD → PD → PD → PD → PD → Option PD) : Fn0 := fun ds => match ds with | [a, b, c, d, e] => k a b c d e | _ => none
theorem q1_some {k : PD → Option PD} {ds : List PD} {r : PD} (h : q1 k ds = some r) : ∃ a, ds = [a] ∧ k a = some r := by
  unfold q1 at h
  split at h <;> first | exact ⟨_, rfl, h⟩ | cases h
theorem q2_some {k : PD → PD → Option PD} {ds : List PD} {r : PD} (h : q2 k ds = some r) : ∃ a b, ds = [a, b] ∧ k a b = some r := by
  unfold q2 at h
  split at h <;> first | exact ⟨_, _, rfl, h⟩ | cases h
theorem q3_some {k : PD → PD → PD → Option PD} {ds : List PD} {r : PD} (h : q3 k ds = some r) : ∃ a b c, ds = [a, b, c] ∧ k a b c = some r := by
  unfold q3 at h
  split at h <;> first | exact ⟨_, _, _, rfl, h⟩ | cases h
theorem ev_bin {h z : PD → PD → Option Rs} (hz : h = z) (h1 : EvP f1 ρ E1) (h2 : EvP f2 ρ E2) : EvV (fBin h f1 f2) ρ (xBin z E1 E2) := fun d e => by
  subst hz
  obtain ⟨a, b, e1, e2, e3⟩ := x2_some e
  obtain ⟨r1, p1, q1⟩ := h1 a e1
  obtain ⟨r2, p2, q2⟩ := h2 b e2
  exact bin_eq p1 p2 q1 q2 (oV_some e3)
theorem ev_binN {h z : PD → PD → Option Rs} (hz : h = z) (h1 : EvP f1 ρ E1) (h2 : EvP f2 ρ E2) : EvN (fBin h f1 f2) ρ (xBinN z E1 E2) := fun d e => by
  subst hz
  obtain ⟨a, b, e1, e2, e3⟩ := x2_some e
  obtain ⟨r1, p1, q1⟩ := h1 a e1
  obtain ⟨r2, p2, q2⟩ := h2 b e2
  exact bin_eq p1 p2 q1 q2 (oN_some e3)
theorem ev_un {h z : PD → Option Rs} (hz : h = z) (h1 : EvP f ρ E) : EvV (fUn h f) ρ (xUn z E) := fun d e => by
  subst hz
  obtain ⟨a, e1, e3⟩ := x1_some e
  obtain ⟨r1, p1, q1⟩ := h1 a e1
  exact un_eq p1 q1 (oV_some e3)
theorem ev_unN {h z : PD → Option Rs} (hz : h = z) (h1 : EvP f ρ E) : EvN (fUn h f) ρ (xUnN z E) := fun d e => by
  subst hz
  obtain ⟨a, e1, e3⟩ := x1_some e
  obtain ⟨r1, p1, q1⟩ := h1 a e1
  exact un_eq p1 q1 (oN_some e3)
theorem ev_isi {t : String} {n : Nat} (hz : isiD t = isF n) (h1 : EvP f ρ E) : EvV (fIsi t f) ρ (xIsi n E) := fun d e => by
  obtain ⟨a, e1, e3⟩ := x1_some e
  obtain ⟨b, e4, e5⟩ := x1_some e3
  cases e5
  obtain ⟨r1, p1, q1⟩ := h1 a e1
  unfold fIsi
  rw [p1, Option.bind_some, q1, Option.bind_some, hz, e4] <;> rfl
theorem ev_isTL (h1 : EvP f ρ E) : EvV (fIsiA ["tuple", "list"] f) ρ (xIsTL E) := fun d e => by
  obtain ⟨a, e1, e3⟩ := x1_some e
  obtain ⟨b, e4, e5⟩ := x1_some e3
  cases e5
  obtain ⟨r1, p1, q1⟩ := h1 a e1
  rw [fIsTL_z]
  unfold z_fIsTL
  rw [p1, Option.bind_some, ← pk_z, q1, Option.bind_some, e4] <;> rfl
theorem ev_chain {h1 h2 z1 z2 : PD → PD → Option Rs} (e1 : h1 = z1) (e2 : h2 = z2) (p1 : EvP f1 ρ E1) (p2 : EvP f2 ρ E2) (p3 : EvP f3 ρ E3) :
    EvV (fChain h1 h2 f1 f2 f3) ρ (xChain z1 z2 E1 E2 E3) := fun d e => by
  subst e1 e2
  obtain ⟨a, b, e1, e2, e3⟩ := x2_some e
  obtain ⟨k, e4, e5⟩ := x1_some e3
  obtain ⟨r1, a1, b1⟩ := p1 a e1
  obtain ⟨r2, a2, b2⟩ := p2 b e2
  unfold fChain
  rw [a1, Option.bind_some, a2, Option.bind_some, b1, Option.bind_some, b2, Option.bind_some, oV_some e4, Option.bind_some]
  split at e5
  · obtain ⟨c, e6, e7⟩ := x1_some e5
    obtain ⟨r3, a3, b3⟩ := p3 c e6
    simp only [if_true, a3, Option.bind_some, b2, b3, oV_some e7, Option.map_some]
  · cases e5
    simp
  · cases e5
theorem ev_and (h1 : EvV f1 ρ E1) (h2 : EvV f2 ρ E2) : EvV (fAnd f1 f2) ρ (xAnd E1 E2) := fun d e => by
  obtain ⟨k, e1, e2⟩ := x1_some e
  unfold fAnd
  rw [h1 k e1, Option.bind_some]
  split at e2
  · simp [h2 d e2]
  · cases e2; simp
  · cases e2
theorem ev_or (h1 : EvV f1 ρ E1) (h2 : EvV f2 ρ E2) : EvV (fOr f1 f2) ρ (xOr E1 E2) := fun d e => by
  obtain ⟨k, e1, e2⟩ := x1_some e
  unfold fOr
  rw [h1 k e1, Option.bind_some]
  split at e2
  · simp [h2 d e2]
  · cases e2; simp
  · cases e2
theorem ev_not (h1 : EvV f ρ E) : EvV (fNot f) ρ (xNot E) := fun d e => by
  obtain ⟨k, e1, e2⟩ := x1_some e
  unfold fNot
  rw [h1 k e1, Option.bind_some]
  split at e2
  · cases e2; rw [← notR_eq]
  · cases e2
theorem ev_ite (hg : EvT g ρ T) (h1 : EvV f1 ρ E1) (h2 : EvV f2 ρ E2) : EvV (fIte g f1 f2) ρ (xIf T E1 E2) := fun d e => by
  obtain ⟨k, e1, e2⟩ := x1_some e
  unfold fIte
  rw [hg k e1, Option.bind_some]
  cases k
  · simp [h2 d e2]
  · simp [h1 d e2]
def bT (E : Option PD) : Option Bool := match E with | some (.bool b) => some b | _ => none
theorem bT_some {b : Bool} (h : bT E = some b) : E = some (.bool b) := by
  unfold bT at h
  split at h <;> first | (cases h; rfl) | cases h
theorem ev_tst (h : EvV f ρ E) : EvT (fTst f) ρ (bT E) := fun b e => by
  unfold fTst
  rw [h _ (bT_some e), Option.bind_some]
theorem ev_gnot (h : EvT g ρ T) : EvT (gNot g) ρ (tNot T) := fun b e => by
  obtain ⟨k, e1, e2⟩ := x1_some e
  cases e2
  unfold gNot
  rw [h k e1, ← notR_eq] <;> rfl
theorem ev_gand (h1 : EvT g1 ρ T1) (h2 : EvT g2 ρ T2) : EvT (gAnd g1 g2) ρ (tAnd T1 T2) := fun b e => by
  obtain ⟨k, e1, e2⟩ := x1_some e
  unfold gAnd
  rw [h1 k e1, Option.bind_some]
  cases k
  · cases e2; simp
  · simp [h2 b e2]
theorem ev_gor (h1 : EvT g1 ρ T1) (h2 : EvT g2 ρ T2) : EvT (gOr g1 g2) ρ (tOr T1 T2) := fun b e => by
  obtain ⟨k, e1, e2⟩ := x1_some e
  unfold gOr
  rw [h1 k e1, Option.bind_some]
  cases k
  · simp [h2 b e2]
  · cases e2; simp
theorem ev_gyes : EvT gYes ρ (some true) := fun b e => by cases e <;> rfl
theorem ea_nil : EvA aNil ρ (some []) ρ := fun l e => by cases e <;> rfl
def xc (E : Option PD) (L : Option (List PD)) : Option (List PD) := match E with
  | some d => match L with
    | some l => some (d :: l)
    | none => none
  | none => none
theorem ea_cons (h1 : EvF f ρ E ρ1) (h2 : EvA fs ρ1 L ρ2) : EvA (aCons f fs) ρ (xc E L) ρ2 := fun l e => by
  unfold xc at e
  cases E with
  | none => cases e
  | some d =>
    cases L with
    | none => cases e
    | some m => cases e; exact acons_eq (h1 d rfl) (h2 m rfl)
def xst (E : Option PD) (L : Option (List PD)) : Option (List PD) := match E with
  | some (.tuple m) => match L with
    | some l => some (appR m l)
    | none => none
  | some (.list m) => match L with
    | some l => some (appR m l)
    | none => none
  | _ => none
theorem ea_star (h1 : EvF f ρ E ρ1) (h2 : EvA fs ρ1 L ρ2) : EvA (aStar f fs) ρ (xst E L) ρ2 := fun l e => by
  unfold xst at e
  split at e
  · rename_i m
    split at e
    · rename_i q
      cases e
      unfold aStar
      rw [h1 _ rfl, Option.bind_some]
      simp only [h2 _ rfl, Option.map_some, appR_eq]
    · cases e
  · rename_i m
    split at e
    · rename_i q
      cases e
      unfold aStar
      rw [h1 _ rfl, Option.bind_some]
      simp only [h2 _ rfl, Option.map_some, appR_eq]
    · cases e
  · cases e
def lt24 (l : List PD) : Bool := Nat.ble (lenR l) 16777216
theorem lt24_ok (h : lt24 l = true) : l.length ≤ sizeLine := by
  rw [sizeLine_eq, lenR_eq]
  exact Nat.ble_eq.mp h
def xT (L : Option (List PD)) : Option PD := match L with
  | some l => match lt24 l with
    | true => some (.tuple l)
    | false => none
  | none => none
theorem ev_tup (h : EvA fs ρ L ρ) : EvV (fTup fs) ρ (xT L) := fun d e => by
  unfold xT at e
  split at e
  · rename_i m
    split at e
    · rename_i hl
      cases e
      unfold fTup
      rw [h _ rfl, Option.bind_some]
      exact if_pos (lt24_ok hl)
    · cases e
  · cases e
def xS (L : Option (List PD)) : Option (List PD) := match L with
  | some l => match lt24 l with
    | true => some l
    | false => none
  | none => none
theorem ev_lst (h : EvA fs ρ L ρ) : EvN (fLst fs) ρ (xS L) := fun d e => by
  unfold xS at e
  split at e
  · rename_i m
    split at e
    · rename_i hl
      cases e
      unfold fLst
      rw [h _ rfl, Option.bind_some]
      exact if_pos (lt24_ok hl)
    · cases e
  · cases e
theorem ev_call {F : Fn0} {G : List PD → Option PD} (hG : ∀ ds r, G ds = some r → F ds = some r) (h : EvA fs ρ L ρ) : EvV (fCall0 F fs) ρ (x1 L G) := fun d e => by
  obtain ⟨l, e1, e2⟩ := x1_some e
  exact call0_eq (h l e1) (hG l d e2)
theorem ev_app {h : List PD → Option Rs} (hl : EvA fs ρ L ρ) : EvV (fApp h fs) ρ (xApp h L) := fun d e => by
  obtain ⟨l, e1, e2⟩ := x1_some e
  unfold fApp
  rw [hl l e1, Option.bind_some, oV_some e2] <;> rfl
theorem ev_cnt (h1 : EvP f1 ρ E1) (h2 : EvP f2 ρ E2) : EvV (fCnt f1 f2) ρ (xCnt E1 E2) := fun d e => by
  obtain ⟨a, b, e1, e2, e3⟩ := x2_some e
  obtain ⟨r1, p1, q1⟩ := h1 a e1
  obtain ⟨r2, p2, q2⟩ := h2 b e2
  unfold fCnt
  rw [p1, Option.bind_some, p2, Option.bind_some, q1, Option.bind_some]
  simp only [q1, q2, Option.bind_some, if_true, hCnt_z, oV_some e3, Option.map_some]
theorem ev_listR1 (h : EvV f ρ E) : EvN (fListR1 f) ρ (xListR1 E) := fun l e => by
  obtain ⟨a, e1, e2⟩ := x1_some e
  unfold fListR1
  rw [h a e1, Option.bind_some]
  split at e2
  · simp only [fRg_z, oN_some e2, Option.map_some]
  · cases e2
theorem ev_tupR1 (h : EvV f ρ E) : EvV (fTupR1 f) ρ (xTupR1 E) := fun l e => by
  obtain ⟨a, e1, e2⟩ := x1_some e
  unfold fTupR1
  rw [h a e1, Option.bind_some]
  split at e2
  · simp only [fRgT_z, oV_some e2, Option.map_some]
  · cases e2
def EvO (f : Ep) (ρ : Rho) (E : Option (Option Int)) : Prop := ∀ o, E = some o → f ρ = some (o, ρ)
theorem eo_no : EvO pNo ρ (some none) := fun o e => by cases e <;> rfl
theorem eo_some (h : EvV f ρ E) : EvO (pSome f) ρ (xOs E) := fun o e => by
  obtain ⟨a, e1, e2⟩ := x1_some e
  unfold pSome
  rw [h a e1, Option.bind_some]
  split at e2
  · cases e2 <;> rfl
  · cases e2
theorem ev_sl {lo hi : Ep} {A B : Option (Option Int)} (h : EvP f ρ E) (h1 : EvO lo ρ A) (h2 : EvO hi ρ B) : EvV (fSl f lo hi) ρ (xSl E A B) := fun r e => by
  obtain ⟨d, e1, e2⟩ := x1_some e
  obtain ⟨a, e3, e4⟩ := x1_some e2
  obtain ⟨b, e5, e6⟩ := x1_some e4
  obtain ⟨r1, p1, q1⟩ := h d e1
  unfold fSl
  rw [p1, Option.bind_some, h1 a e3, Option.bind_some, h2 b e5, Option.bind_some, q1, Option.bind_some, oV_some e6] <;> rfl
theorem ev_slN {lo hi : Ep} {A B : Option (Option Int)} (h : EvP f ρ E) (h1 : EvO lo ρ A) (h2 : EvO hi ρ B) : EvN (fSl f lo hi) ρ (xSlN E A B) := fun r e => by
  obtain ⟨d, e1, e2⟩ := x1_some e
  obtain ⟨a, e3, e4⟩ := x1_some e2
  obtain ⟨b, e5, e6⟩ := x1_some e4
  obtain ⟨r1, p1, q1⟩ := h d e1
  unfold fSl
  rw [p1, Option.bind_some, h1 a e3, Option.bind_some, h2 b e5, Option.bind_some, q1, Option.bind_some, oN_some e6] <;> rfl
def xI (E : Option PD) : Option (List PD) := match E with
  | some (.list l) => some l
  | some (.tuple l) => some l
  | _ => none
theorem ei_seq (h : EvF f ρ E ρ1) : EvA (Dv.iSeq f) ρ (xI E) ρ1 := fun l e => by
  unfold xI at e
  split at e <;> first | (cases e; unfold Dv.iSeq; rw [h _ rfl]; rfl) | cases e
theorem ei_r1 (h : EvA fs ρ L ρ1) : EvA (Dv.iRng1 fs) ρ (xR1 L) ρ1 := fun l e => by
  obtain ⟨m, e1, e2⟩ := x1_some e
  rw [iRng1_z]
  unfold z_iRng1
  rw [h m e1, Option.bind_some]
  split at e2
  · split at e2
    · cases e2
      rename_i hs
      simp only [hs]
    · cases e2
  · cases e2
theorem ei_r2 (h : EvA fs ρ L ρ1) : EvA (Dv.iRng2 fs) ρ (xR2 L) ρ1 := fun l e => by
  obtain ⟨m, e1, e2⟩ := x1_some e
  rw [iRng2_z]
  unfold z_iRng2
  rw [h m e1, Option.bind_some]
  split at e2
  · split at e2
    · split at e2
      · cases e2
        rename_i hs1 _ hs
        simp only [hs, hs1]
      · cases e2
    · cases e2
  · cases e2
end
end
end Gd
set_option Elab.async false
set_option linter.all false
set_option maxRecDepth 100000
set_option maxHeartbeats 4000000
namespace Gd
open PySem PySem.Spec PyProof.Rows L2 Gq Dv Lw Fz
noncomputable section
section
variable {f f1 f2 f3 : Ev} {fs : Ea} {g g1 g2 : Et} {ρ ρ1 ρ2 : Rho} {E E1 E2 E3 : Option PD} {L : Option (List PD)} {T T1 T2 : Option Bool} {d : PD} {i : Nat} {l : List PD}
def xcmp (T : PD → Option Bool) (V : PD → Option PD) (ds : List PD) : Option (List PD) := List.rec (motive := fun _ => Option (List PD)) (some []) (fun d _ ih => match T d with
  | some true => match V d with
    | some y => match ih with
      | some ys => some (y :: ys)
      | none => none
    | none => none
  | some false => ih
  | none => none) ds
def xComp (L : Option (List PD)) (T : PD → Option Bool) (V : PD → Option PD) : Option (List PD) := x1 L fun l => xS (xcmp T V l)
theorem cmp_dir {vs : List Nat} {st : PD → Rho → Option Rho} {g : Et} {fe : Ev} {T : PD → Option Bool} {V : PD → Option PD} (fr : PD → Rho) (ρw : Rho) (hst : ∀ d, st d ρw = some (fr d)) (hw : ∀ d, wR (fr d) vs = ρw)
    (hg : ∀ d, EvT g (fr d) (T d)) (he : ∀ d, EvF fe (fr d) (V d) (fr d)) : ∀ (ds ys : List PD) (ρ : Rho), wR ρ vs = ρw → xcmp T V ds = some ys → ∃ ρ', cmpL vs st g fe ds ρ = some (ys, ρ') ∧ ρ' = ρw
  | [], ys, ρ, h, e => by
    cases e
    exact ⟨_, rfl, h⟩
  | d :: ds, ys, ρ, h, e => by
    unfold cmpL
    rw [h, hst d, Option.bind_some]
    have e' : (match T d with
      | some true => match V d with
        | some y => match xcmp T V ds with
          | some ys => some (y :: ys)
          | none => none
        | none => none
      | some false => xcmp T V ds
      | none => none) = some ys := e
    split at e'
    · rename_i hT
      split at e'
      · rename_i y hV
        split at e'
        · rename_i zs hz
          cases e'
          obtain ⟨ρ', e1, e2⟩ := cmp_dir fr ρw hst hw hg he ds zs (fr d) (hw d) hz
          refine ⟨ρ', ?_, e2⟩
          rw [hg d true hT, Option.bind_some, if_pos rfl, he d y hV, Option.bind_some]
          simp only [e1, Option.map_some]
        · cases e'
      · cases e'
    · rename_i hT
      obtain ⟨ρ', e1, e2⟩ := cmp_dir fr ρw hst hw hg he ds ys (fr d) (hw d) e'
      refine ⟨ρ', ?_, e2⟩
      rw [hg d false hT, Option.bind_some]
      simp only [Bool.false_eq_true, if_false, e1]
    · cases e'
theorem set_set {α : Type} (l : List α) (i : Nat) (a b : α) : (l.set i a).set i b = l.set i b := by simp
theorem set_get_self {α : Type} {l : List α} {i : Nat} {a : α} (h : l[i]? = some a) : l.set i a = l := by
  apply List.ext_getElem?
  intro j
  rw [List.getElem?_set]
  split
  · rename_i e
    subst e
    have := (List.getElem?_eq_some_iff.mp h).1
    rw [List.getElem?_eq_getElem this] at h ⊢
    simp [this]
    exact (Option.some.inj h).symm
  · rfl
theorem ev_comp {v : Nat} {fi : Ea} {fe : Ev} {T : PD → Option Bool} {V : PD → Option PD} {x : Slt} (hv : ρ[v]? = some x) (hi : EvA fi ρ L ρ) (hg : ∀ d, EvT g (ρ.set v (.val d)) (T d)) (he : ∀ d, EvF fe (ρ.set v (.val d)) (V d) (ρ.set v (.val d))) :
    EvN (fComp [v] fi (stNm v) g fe) ρ (xComp L T V) := fun l e => by
  obtain ⟨m, e1, e2⟩ := x1_some e
  have hl := (List.getElem?_eq_some_iff.mp hv).1
  unfold xS at e2
  split at e2
  · rename_i ys hys
    split at e2
    · rename_i hlt
      cases e2
      have hw : wr (ρ.set v .no) v = true := by unfold wr; rw [List.getElem?_set_self hl]
      obtain ⟨ρ', e3, e4⟩ := cmp_dir (vs := [v]) (st := stNm v) (fun d => ρ.set v (.val d)) (ρ.set v .no) (fun d => by unfold stNm; rw [if_pos hw, set_set]) (fun d => by show (ρ.set v (.val d)).set v .no = _; rw [set_set]) hg he m l ρ rfl hys
      have z := comp_eq (hi m e1) e3 (lt24_ok hlt)
      rw [z]
      subst e4
      show some (Rs.new l, (ρ.set v .no).set v ((ρ[v]?).getD .no)) = _
      rw [hv, set_set]
      show some (Rs.new l, ρ.set v x) = _
      rw [set_get_self hv]
    · cases e2
  · cases e2
def p2 {α : Type} (d : PD) (k : PD → PD → Option α) : Option α := match d with
  | .tuple [a, b] => k a b
  | _ => none
theorem cmp_dir2 {vs : List Nat} {st : PD → Rho → Option Rho} {g : Et} {fe : Ev} {T : PD → PD → Option Bool} {V : PD → PD → Option PD} (fr : PD → PD → Rho) (ρw : Rho) (hst : ∀ a b, st (.tuple [a, b]) ρw = some (fr a b)) (hw : ∀ a b, wR (fr a b) vs = ρw)
    (hg : ∀ a b, EvT g (fr a b) (T a b)) (he : ∀ a b, EvF fe (fr a b) (V a b) (fr a b)) : ∀ (ds ys : List PD) (ρ : Rho), wR ρ vs = ρw → xcmp (fun d => p2 d T) (fun d => p2 d V) ds = some ys → ∃ ρ', cmpL vs st g fe ds ρ = some (ys, ρ') ∧ ρ' = ρw
  | [], ys, ρ, h, e => by
    cases e
    exact ⟨_, rfl, h⟩
  | d :: ds, ys, ρ, h, e => by
    have e' : (match p2 d T with
      | some true => match p2 d V with
        | some y => match xcmp (fun d => p2 d T) (fun d => p2 d V) ds with
          | some ys => some (y :: ys)
          | none => none
        | none => none
      | some false => xcmp (fun d => p2 d T) (fun d => p2 d V) ds
      | none => none) = some ys := e
    have hd : ∃ a b, d = .tuple [a, b] := by
      unfold p2 at e'
      split at e'
      · rename_i h
        split at h
        · exact ⟨_, _, rfl⟩
        · cases h
      · rename_i h
        split at h
        · exact ⟨_, _, rfl⟩
        · cases h
      · cases e'
    obtain ⟨a, b, rfl⟩ := hd
    unfold cmpL
    rw [h, hst a b, Option.bind_some]
    change (match T a b with
      | some true => match V a b with
        | some y => match xcmp (fun d => p2 d T) (fun d => p2 d V) ds with
          | some ys => some (y :: ys)
          | none => none
        | none => none
      | some false => xcmp (fun d => p2 d T) (fun d => p2 d V) ds
      | none => none) = some ys at e'
    split at e'
    · rename_i hT
      split at e'
      · rename_i y hV
        split at e'
        · rename_i zs hz
          cases e'
          obtain ⟨ρ', e1, e2⟩ := cmp_dir2 fr ρw hst hw hg he ds zs (fr a b) (hw a b) hz
          refine ⟨ρ', ?_, e2⟩
          rw [hg a b true hT, Option.bind_some, if_pos rfl, he a b y hV, Option.bind_some]
          simp only [e1, Option.map_some]
        · cases e'
      · cases e'
    · rename_i hT
      obtain ⟨ρ', e1, e2⟩ := cmp_dir2 fr ρw hst hw hg he ds ys (fr a b) (hw a b) e'
      refine ⟨ρ', ?_, e2⟩
      rw [hg a b false hT, Option.bind_some]
      simp only [Bool.false_eq_true, if_false, e1]
    · cases e'
theorem set_comm2 {α : Type} (l : List α) {i j : Nat} (a b : α) (h : i ≠ j) : (l.set i a).set j b = (l.set j b).set i a := List.set_comm a b h
theorem ev_comp2 {v w : Nat} {fi : Ea} {fe : Ev} {T : PD → PD → Option Bool} {V : PD → PD → Option PD} {x y : Slt} (hv : ρ[v]? = some x) (hw : ρ[w]? = some y) (hne : v ≠ w) (hi : EvA fi ρ L ρ)
    (hg : ∀ a b, EvT g ((ρ.set v (.val a)).set w (.val b)) (T a b)) (he : ∀ a b, EvF fe ((ρ.set v (.val a)).set w (.val b)) (V a b) ((ρ.set v (.val a)).set w (.val b))) :
    EvN (fComp [v, w] fi (Dv.stTup [v, w]) g fe) ρ (xComp L (fun d => p2 d T) (fun d => p2 d V)) := fun l e => by
  obtain ⟨m, e1, e2⟩ := x1_some e
  have hl := (List.getElem?_eq_some_iff.mp hv).1
  have hl2 := (List.getElem?_eq_some_iff.mp hw).1
  unfold xS at e2
  split at e2
  · rename_i ys hys
    split at e2
    · rename_i hlt
      cases e2
      obtain ⟨ρ', e3, e4⟩ := cmp_dir2 (vs := [v, w]) (st := Dv.stTup [v, w]) (fun a b => (ρ.set v (.val a)).set w (.val b)) ((ρ.set w .no).set v .no) (fun a b => by
          have w1 : wr ((ρ.set w .no).set v .no) v = true := by unfold wr; rw [List.getElem?_set_self (by rw [List.length_set]; exact hl)]
          have w2 : wr (((ρ.set w .no).set v .no).set v (.val a)) w = true := by
            unfold wr
            rw [List.getElem?_set_ne hne, List.getElem?_set_ne hne, List.getElem?_set_self hl2]
          show (if wr ((ρ.set w .no).set v .no) v = true then (if wr (((ρ.set w .no).set v .no).set v (.val a)) w = true then some ((((ρ.set w .no).set v .no).set v (.val a)).set w (.val b)) else none) else none) = _
          rw [if_pos w1, if_pos w2, set_set, set_comm2 (ρ.set w .no) (i := v) (j := w) _ _ hne, set_set, set_comm2 _ _ _ hne])
        (fun a b => by
          show (((ρ.set v (.val a)).set w (.val b)).set w .no).set v .no = _
          rw [set_set, set_comm2 _ _ _ hne, set_set]) hg he m l ρ rfl hys
      have z := comp_eq (hi m e1) e3 (lt24_ok hlt)
      rw [z]
      subst e4
      show some (Rs.new l, (((ρ.set w .no).set v .no).set w ((ρ[w]?).getD .no)).set v ((ρ[v]?).getD .no)) = _
      rw [hv, hw]
      show some (Rs.new l, (((ρ.set w .no).set v .no).set w y).set v x) = _
      rw [set_comm2 (ρ.set w .no) (i := v) (j := w) _ _ hne, set_set, set_set, set_get_self hw, set_get_self hv]
    · cases e2
  · cases e2
def xall (T : PD → Option Bool) (V : PD → Option PD) (ds : List PD) : Option Bool := List.rec (motive := fun _ => Option Bool) (some true) (fun d _ ih => match T d with
  | some true => match V d with
    | some (.bool true) => ih
    | some (.bool false) => some false
    | _ => none
  | some false => ih
  | none => none) ds
def xany (T : PD → Option Bool) (V : PD → Option PD) (ds : List PD) : Option Bool := List.rec (motive := fun _ => Option Bool) (some false) (fun d _ ih => match T d with
  | some true => match V d with
    | some (.bool true) => some true
    | some (.bool false) => ih
    | _ => none
  | some false => ih
  | none => none) ds
theorem take_app {α : Type} (xs ys : List α) : (xs ++ ys).take xs.length = xs := by simp
theorem trn_dir {k : Nat} {st : PD → Rho → Option Rho} {fe : Ev} {fr : List Slt} {d : PD} {T : Option Bool} {V : Option PD} (hst : st d (ρ ++ noS k) = some (ρ ++ fr)) (hg : EvT g (ρ ++ fr) T) (he : EvF fe (ρ ++ fr) V (ρ ++ fr)) :
    (T = some false → trn k st g fe d ρ = some (none, ρ)) ∧ (∀ y, T = some true → V = some y → trn k st g fe d ρ = some (some y, ρ)) := by
  refine ⟨fun e => ?_, fun y e1 e2 => ?_⟩
  · unfold trn
    rw [hst, Option.bind_some, hg _ e, Option.bind_some]
    simp only [Bool.false_eq_true, if_false, take_app]
  · unfold trn
    rw [hst, Option.bind_some, hg _ e1, Option.bind_some]
    simp only [if_true, he _ e2, Option.bind_some, take_app]
theorem all_dir {tr : PD → Rho → Option (Option PD × Rho)} {T : PD → Option Bool} {V : PD → Option PD} (h : ∀ d, (T d = some false → tr d ρ = some (none, ρ)) ∧ (∀ y, T d = some true → V d = some y → tr d ρ = some (some y, ρ))) :
    ∀ (ds : List PD) (b : Bool), xall T V ds = some b → allL tr ds ρ = some (b, ρ)
  | [], b, e => by cases e <;> rfl
  | d :: ds, b, e => by
    have e' : (match T d with
      | some true => match V d with
        | some (.bool true) => xall T V ds
        | some (.bool false) => some false
        | _ => none
      | some false => xall T V ds
      | none => none) = some b := e
    unfold allL
    split at e'
    · rename_i hT
      split at e'
      · rename_i hV
        rw [(h d).2 _ hT hV, Option.bind_some]
        simp only [if_true, all_dir h ds b e']
      · rename_i hV
        cases e'
        rw [(h d).2 _ hT hV, Option.bind_some]
        simp only [Bool.false_eq_true, if_false]
      · cases e'
    · rename_i hT
      rw [(h d).1 hT, Option.bind_some]
      exact all_dir h ds b e'
    · cases e'
theorem any_dir {tr : PD → Rho → Option (Option PD × Rho)} {T : PD → Option Bool} {V : PD → Option PD} (h : ∀ d, (T d = some false → tr d ρ = some (none, ρ)) ∧ (∀ y, T d = some true → V d = some y → tr d ρ = some (some y, ρ))) :
    ∀ (ds : List PD) (b : Bool), xany T V ds = some b → anyL tr ds ρ = some (b, ρ)
  | [], b, e => by cases e <;> rfl
  | d :: ds, b, e => by
    have e' : (match T d with
      | some true => match V d with
        | some (.bool true) => some true
        | some (.bool false) => xany T V ds
        | _ => none
      | some false => xany T V ds
      | none => none) = some b := e
    unfold anyL
    split at e'
    · rename_i hT
      split at e'
      · rename_i hV
        cases e'
        rw [(h d).2 _ hT hV, Option.bind_some]
        simp only [if_true]
      · rename_i hV
        rw [(h d).2 _ hT hV, Option.bind_some]
        simp only [Bool.false_eq_true, if_false, any_dir h ds b e']
      · cases e'
    · rename_i hT
      rw [(h d).1 hT, Option.bind_some]
      exact any_dir h ds b e'
    · cases e'
theorem col_dir {tr : PD → Rho → Option (Option PD × Rho)} {T : PD → Option Bool} {V : PD → Option PD} (h : ∀ d, (T d = some false → tr d ρ = some (none, ρ)) ∧ (∀ y, T d = some true → V d = some y → tr d ρ = some (some y, ρ))) :
    ∀ (ds ys : List PD), xcmp T V ds = some ys → colL tr ds ρ = some (ys, ρ)
  | [], ys, e => by cases e <;> rfl
  | d :: ds, ys, e => by
    have e' : (match T d with
      | some true => match V d with
        | some y => match xcmp T V ds with
          | some ys => some (y :: ys)
          | none => none
        | none => none
      | some false => xcmp T V ds
      | none => none) = some ys := e
    unfold colL
    split at e'
    · rename_i hT
      split at e'
      · rename_i y hV
        split at e'
        · rename_i zs hz
          cases e'
          rw [(h d).2 _ hT hV, Option.bind_some]
          simp only [col_dir h ds zs hz, Option.map_some]
        · cases e'
      · cases e'
    · rename_i hT
      rw [(h d).1 hT, Option.bind_some]
      exact col_dir h ds ys e'
    · cases e'
theorem st_new1 {n : Nat} (hn : ρ.length = n) (d : PD) : stNm n d (ρ ++ noS 1) = some (ρ ++ [.val d]) := by
  subst hn
  unfold stNm wr noS
  rw [List.getElem?_append_right (Nat.le_refl _)]
  simp
section
variable {fi : Ea} {fe : Ev} {n : Nat} {T : PD → Option Bool} {V : PD → Option PD}
def xAllG (L : Option (List PD)) (T : PD → Option Bool) (V : PD → Option PD) : Option PD := x1 L fun l => x1 (xall T V l) fun b => some (.bool b)
def xAnyG (L : Option (List PD)) (T : PD → Option Bool) (V : PD → Option PD) : Option PD := x1 L fun l => x1 (xany T V l) fun b => some (.bool b)
def xTupG (L : Option (List PD)) (T : PD → Option Bool) (V : PD → Option PD) : Option PD := xT (x1 L fun l => xcmp T V l)
def xsum (l : List PD) : Option PD := match sumD l with | some j => some (.int j) | none => none
def xSumG (L : Option (List PD)) (T : PD → Option Bool) (V : PD → Option PD) : Option PD := x1 (x1 L fun l => xcmp T V l) xsum
theorem ev_allG (hn : ρ.length = n) (hi : EvA fi ρ L ρ) (hg : ∀ d, EvT g (ρ ++ [.val d]) (T d)) (he : ∀ d, EvF fe (ρ ++ [.val d]) (V d) (ρ ++ [.val d])) : EvV (fAllG 1 fi (stNm n) g fe) ρ (xAllG L T V) := fun d e => by
  obtain ⟨m, e1, e2⟩ := x1_some e
  obtain ⟨b, e3, e4⟩ := x1_some e2
  cases e4
  unfold fAllG
  rw [hi m e1, Option.bind_some]
  simp only [all_dir (fun d => trn_dir (st_new1 hn d) (hg d) (he d)) m b e3, Option.map_some]
theorem ev_anyG (hn : ρ.length = n) (hi : EvA fi ρ L ρ) (hg : ∀ d, EvT g (ρ ++ [.val d]) (T d)) (he : ∀ d, EvF fe (ρ ++ [.val d]) (V d) (ρ ++ [.val d])) : EvV (fAnyG 1 fi (stNm n) g fe) ρ (xAnyG L T V) := fun d e => by
  obtain ⟨m, e1, e2⟩ := x1_some e
  obtain ⟨b, e3, e4⟩ := x1_some e2
  cases e4
  unfold fAnyG
  rw [hi m e1, Option.bind_some]
  simp only [any_dir (fun d => trn_dir (st_new1 hn d) (hg d) (he d)) m b e3, Option.map_some]
theorem ev_tupG (hn : ρ.length = n) (hi : EvA fi ρ L ρ) (hg : ∀ d, EvT g (ρ ++ [.val d]) (T d)) (he : ∀ d, EvF fe (ρ ++ [.val d]) (V d) (ρ ++ [.val d])) : EvV (fTupG 1 fi (stNm n) g fe) ρ (xTupG L T V) := fun d e => by
  unfold xTupG xT at e
  split at e
  · rename_i ys hys
    obtain ⟨m, e1, e2⟩ := x1_some hys
    split at e
    · rename_i hl
      cases e
      unfold fTupG
      rw [hi m e1, Option.bind_some, col_dir (fun d => trn_dir (st_new1 hn d) (hg d) (he d)) m ys e2, Option.bind_some]
      exact if_pos (lt24_ok hl)
    · cases e
  · cases e
theorem ev_sumG (hn : ρ.length = n) (hi : EvA fi ρ L ρ) (hg : ∀ d, EvT g (ρ ++ [.val d]) (T d)) (he : ∀ d, EvF fe (ρ ++ [.val d]) (V d) (ρ ++ [.val d])) : EvV (fSumG 1 fi (stNm n) g fe) ρ (xSumG L T V) := fun d e => by
  obtain ⟨ys, e0, e4⟩ := x1_some e
  obtain ⟨m, e1, e2⟩ := x1_some e0
  unfold xsum at e4
  split at e4
  · rename_i j hj
    cases e4
    unfold fSumG
    rw [hi m e1, Option.bind_some, col_dir (fun d => trn_dir (st_new1 hn d) (hg d) (he d)) m ys e2, Option.bind_some]
    simp only [hj, Option.map_some]
  · cases e4
end
structure Qs where
  nx : Rho → Prop
  bk : Rho → Prop
  ct : Rho → Prop
def W (r : PD) (Q : Qs) (o : Option Fw) : Prop := match o with
  | some (.nx ρ) => Q.nx ρ
  | some (.rt d _) => d = r
  | some (.bk ρ) => Q.bk ρ
  | some (.ct ρ) => Q.ct ρ
  | none => False
section
variable {r : PD} {Q : Qs} {p1 q2 : Es}
theorem w_seq (h : W r ⟨fun ρ1 => W r Q (q2 ρ1), Q.bk, Q.ct⟩ (p1 ρ)) : W r Q (cSeq p1 q2 ρ) := by
  unfold cSeq
  cases e : p1 ρ with
  | none => rw [e] at h; exact h
  | some w => rw [e] at h; cases w <;> exact h
theorem w_nil (h : Q.nx ρ) : W r Q (cNil ρ) := h
theorem w_asgV {K : PD → Option PD} (h : EvV f ρ E) (hw : wr ρ i = true) (hk : x1 E K = some r) (h2 : ∀ d, K d = some r → Q.nx (ρ.set i (.val d))) : W r Q (cAsg i f ρ) := by
  obtain ⟨d, e1, e2⟩ := x1_some hk
  rw [asg_val (h d e1) hw]
  exact h2 d e2
theorem w_asgN {K : List PD → Option PD} (h : EvN f ρ L) (hw : wr ρ i = true) (hk : x1 L K = some r) (h2 : ∀ l, K l = some r → Q.nx (ρ.set i (.own false l))) : W r Q (cAsg i f ρ) := by
  obtain ⟨d, e1, e2⟩ := x1_some hk
  rw [asg_new (h d e1) hw]
  exact h2 d e2
theorem w_asgF {K : PD → Option PD} (h : EvF f ρ E ρ1) (hw : wr ρ1 i = true) (hk : x1 E K = some r) (h2 : ∀ d, K d = some r → Q.nx (ρ1.set i (.val d))) : W r Q (cAsg i (fVal f) ρ) := by
  obtain ⟨d, e1, e2⟩ := x1_some hk
  rw [asg_val (h d e1) hw]
  exact h2 d e2
theorem w_if {K1 K2 : Option PD} (h : EvT g ρ T) (hk : xIf T K1 K2 = some r) (h1 : K1 = some r → W r Q (p1 ρ)) (h2 : K2 = some r → W r Q (q2 ρ)) : W r Q (cIf g p1 q2 ρ) := by
  obtain ⟨b, e1, e2⟩ := x1_some hk
  cases b with
  | true => rw [if_tt (h true e1) rfl]; exact h1 e2
  | false => rw [if_ff (h false e1) rfl]; exact h2 e2
theorem w_ret (h : EvF f ρ E ρ1) (hk : E = some r) : W r Q (cRet f ρ) := by
  unfold cRet
  rw [h r hk] <;> rfl
theorem w_exp {K : Option PD} (h : EvV f ρ E) (hk : (x1 E fun _ => K) = some r) (h2 : K = some r → Q.nx ρ) : W r Q (cExp f ρ) := by
  obtain ⟨d, e1, e2⟩ := x1_some hk
  rw [exp_eq (h d e1)]
  exact h2 e2
def xapp (l : List PD) (k : Option PD) : Option PD := match Nat.ble (Nat.add (lenR l) 1) 16777216 with
  | true => k
  | false => none
theorem w_app {bo : Bool} {l0 : List PD} {K : PD → Option PD} (h0 : ρ[i]? = some (.own bo l0)) (h : EvF f ρ E ρ1) (h1 : ρ1[i]? = some (.own bo l)) (hk : (x1 E fun d => xapp l (K d)) = some r) (h2 : ∀ d, K d = some r → Q.nx (ρ1.set i (.own bo (appR l [d])))) : W r Q (cApp i f ρ) := by
  obtain ⟨d, e1, e2⟩ := x1_some hk
  unfold xapp at e2
  split at e2
  · rename_i hl
    rw [cApp_z]
    unfold z_cApp
    rw [← getR_eq, h0]
    simp only [← fVal_z, h d e1, Option.bind_some, ← getR_eq, h1, hl, ← putR_eq]
    exact h2 d e2
  · cases e2
def pI2 (a b : PD) (h : Int → Int → Int) : Option PD := match a, b with
  | .int i, .int j => some (.int (h i j))
  | _, _ => none
theorem w_aug {h : Int → Int → Int} {a : PD} {K : PD → Option PD} (h0 : ρ[i]? = some (.val a)) (he : EvV f ρ E) (hk : (x1 E fun b => x1 (pI2 a b h) K) = some r) (h2 : ∀ d, K d = some r → Q.nx (ρ.set i (.val d))) : W r Q (cAug i h f ρ) := by
  obtain ⟨b, e1, e2⟩ := x1_some hk
  obtain ⟨d, e3, e4⟩ := x1_some e2
  unfold pI2 at e3
  split at e3
  · cases e3
    unfold cAug
    rw [h0]
    simp only [he _ e1, Option.bind_some]
    rw [if_pos (by unfold wr; rw [h0])]
    exact h2 _ e4
  · cases e3
theorem w_unp2 {v w : Nat} {K : PD → PD → Option PD} (h : EvV f ρ E) (h1 : wr ρ v = true) (h2 : ∀ a, wr (ρ.set v (.val a)) w = true) (hk : (x1 E fun d => p2 d K) = some r) (hn : ∀ a b, K a b = some r → Q.nx ((ρ.set v (.val a)).set w (.val b))) : W r Q (cUnp [v, w] f ρ) := by
  obtain ⟨d, e1, e2⟩ := x1_some hk
  unfold p2 at e2
  split at e2
  · rename_i a b
    unfold cUnp
    rw [h _ e1, Option.bind_some]
    have e : Dv.stTup [v, w] (.tuple [a, b]) ρ = some ((ρ.set v (.val a)).set w (.val b)) := by
      show (if wr ρ v = true then (if wr (ρ.set v (.val a)) w = true then some ((ρ.set v (.val a)).set w (.val b)) else none) else none) = _
      rw [if_pos h1, if_pos (h2 a)]
    simp only [e, Option.map_some]
    exact hn a b e2
  · cases e2
def EvR (f : Er) (ρ : Rho) (E : Option (List Rs)) (ρ' : Rho) : Prop := ∀ l, E = some l → f ρ = some (l, ρ')
theorem er_nil : EvR rNil ρ (some []) ρ := fun l e => by cases e <;> rfl
def xrV (E : Option PD) (R : Option (List Rs)) : Option (List Rs) := match E with
  | some d => match R with
    | some rs => some (.val d :: rs)
    | none => none
  | none => none
def xrN (E : Option (List PD)) (R : Option (List Rs)) : Option (List Rs) := match E with
  | some d => match R with
    | some rs => some (.new d :: rs)
    | none => none
  | none => none
theorem er_v {fs : Er} {R : Option (List Rs)} (h : EvV f ρ E) (hs : EvR fs ρ R ρ2) : EvR (rCons f fs) ρ (xrV E R) ρ2 := fun l e => by
  unfold xrV at e
  split at e
  · rename_i d
    split at e
    · rename_i rs hd
      cases e
      exact rcons_val (h _ rfl) (hs _ rfl)
    · cases e
  · cases e
theorem er_n {fs : Er} {R : Option (List Rs)} (h : EvN f ρ L) (hs : EvR fs ρ R ρ2) : EvR (rCons f fs) ρ (xrN L R) ρ2 := fun l e => by
  unfold xrN at e
  split at e
  · rename_i d
    split at e
    · rename_i rs hd
      cases e
      exact rcons_new (h _ rfl) (hs _ rfl)
    · cases e
  · cases e
theorem er_f {fs : Er} {R : Option (List Rs)} {l : List PD} (h : ρ[i]? = some (.own false l)) (hs : EvR fs (ρ.set i (.val (.list l))) R ρ2) : EvR (rCons (fLoc i) fs) ρ (xrV (some (.list l)) R) ρ2 := fun m e => by
  unfold xrV at e
  split at e
  · rename_i d hd
    cases hd
    split at e
    · rename_i rs
      cases e
      unfold rCons fHalf fLoc
      rw [h]
      simp only [Option.bind_some, fzn, h, Option.map_some, hs _ rfl]
    · cases e
  · cases e
theorem w_par {is : List Nat} {fs : Er} {R : Option (List Rs)} {K : List Rs → Option PD} (h : EvR fs ρ R ρ1) (hk : x1 R K = some r) (h2 : ∀ rs, K rs = some r → ∃ ρ2, putsR is rs ρ1 = some ρ2 ∧ Q.nx ρ2) : W r Q (cParR is fs ρ) := by
  obtain ⟨rs, e1, e2⟩ := x1_some hk
  obtain ⟨ρ2, e3, e4⟩ := h2 rs e2
  rw [par_eq (h rs e1) e3]
  exact e4
theorem pt_v {is : List Nat} {rs : List Rs} {o : Option Rho} (hw : wr ρ i = true) (h : putsR is rs (ρ.set i (.val d)) = o) : putsR (i :: is) (.val d :: rs) ρ = o := by
  show (if wr ρ i = true then putsR is rs (ρ.set i (.val d)) else none) = o
  rw [if_pos hw, h]
theorem pt_n {is : List Nat} {rs : List Rs} {o : Option Rho} (hw : wr ρ i = true) (h : putsR is rs (ρ.set i (.own false l)) = o) : putsR (i :: is) (.new l :: rs) ρ = o := by
  show (if wr ρ i = true then putsR is rs (ρ.set i (.own false l)) else none) = o
  rw [if_pos hw, h]
theorem w_for {fi : Ea} {st : PD → Rho → Option Rho} {b : Es} {K : List PD → Option PD} (h : EvA fi ρ L ρ1) (hk : x1 L K = some r) (h2 : ∀ ds, K ds = some r → W r Q (forL st b ds ρ1)) : W r Q (cFor fi st b ρ) := by
  obtain ⟨ds, e1, e2⟩ := x1_some hk
  rw [for_eq (h ds e1) rfl]
  exact h2 ds e2
theorem w_forc {st : PD → Rho → Option Rho} {b : Es} {ds : List PD} (hs : st d ρ = some ρ1) (h : W r ⟨fun ρ2 => W r Q (forL st b ds ρ2), Q.nx, fun ρ2 => W r Q (forL st b ds ρ2)⟩ (b ρ1)) : W r Q (forL st b (d :: ds) ρ) := by
  unfold forL
  rw [hs, Option.bind_some]
  cases e : b ρ1 with
  | none => rw [e] at h; exact h
  | some w => rw [e] at h; cases w <;> exact h
theorem st_1 (hw : wr ρ i = true) : stNm i d ρ = some (ρ.set i (.val d)) := if_pos hw
theorem w_whl {g : Et} {b : Es} {n : Nat} {K1 K2 : Option PD} (h : EvT g ρ T) (hk : xIf T K1 K2 = some r) (h1 : K1 = some r → W r ⟨fun ρ2 => W r Q (whl g b n ρ2), Q.nx, fun ρ2 => W r Q (whl g b n ρ2)⟩ (b ρ)) (h2 : K2 = some r → Q.nx ρ) : W r Q (whl g b (n + 1) ρ) := by
  obtain ⟨k, e1, e2⟩ := x1_some hk
  unfold whl
  rw [h k e1, Option.bind_some]
  cases k with
  | false => exact h2 e2
  | true =>
    rw [if_pos rfl]
    have h := h1 e2
    cases e : b ρ with
    | none => rw [e] at h; exact h
    | some w => rw [e] at h; cases w <;> exact h
def Q0 (r : PD) : Qs := ⟨fun _ => r = .none, fun _ => False, fun _ => False⟩
theorem run0_dir {np nN : Nat} {body : Es} {ds : List PD} (hn : ds.length = np) (h : W r (Q0 r) (body (ds.map Slt.val ++ noS (nN - np)))) : run0 np nN body ds = some r := by
  cases e : body (ds.map Slt.val ++ noS (nN - np)) with
  | none => rw [e] at h; exact h.elim
  | some w =>
    rw [e] at h
    cases w with
    | nx ρ => rw [run0_nx hn e, show r = .none from h]
    | rt d ρ => rw [run0_rt hn e, show d = r from h]
    | bk ρ => exact (show False from h).elim
    | ct ρ => exact (show False from h).elim
theorem wr_j {x : Slt} (h : ρ[i]? = some x) (hx : ∀ l, x ≠ .own true l) : wr ρ i = true := by
  unfold wr
  rw [h]
  split
  · rename_i l e
    cases e
    exact absurd rfl (hx l)
  · rfl
end
end
end
end Gd
set_option Elab.async false
set_option linter.all false
set_option maxRecDepth 100000
set_option maxHeartbeats 4000000
namespace Gd
open PySem PySem.Spec PyProof.Rows L2 Gq Dv Lw Fz
noncomputable section
theorem w_true {o : Option Fw} (h : W (.bool true) (Q0 (.bool true)) o) : ∃ ρ', o = some (.rt (.bool true) ρ') := by
  cases o with
  | none => exact h.elim
  | some w =>
    cases w with
    | nx ρ => exact absurd (show PyData.bool true = .none from h) (fun z => by cases z)
    | rt d ρ => exact ⟨ρ, by rw [show d = .bool true from h]⟩
    | bk ρ => exact (show False from h).elim
    | ct ρ => exact (show False from h).elim
def isB : Option PD → Bool
  | some (.bool true) => true
  | _ => false
theorem isB_ok : ∀ {o : Option PD}, isB o = true → o = some (.bool true)
  | some (.bool true), _ => rfl
  | none, h => by cases h
  | some .none, h => by cases h
  | some (.bool false), h => by cases h
  | some (.int _), h => by cases h
  | some (.str _), h => by cases h
  | some (.list _), h => by cases h
  | some (.tuple _), h => by cases h
  | some (.dict _), h => by cases h
end
end Gd
set_option Elab.async false
set_option linter.all false
set_option maxRecDepth 100000
set_option maxHeartbeats 4000000
namespace Ha
open PySem PySem.Spec PyProof.Rows L2 Gq Dv Lw Fz Gd
noncomputable section
inductive Sk where
  | v (d : PD)
  | o (l : List PD)
  | e (l : List PD)
  | j
def Sok : Sk → Slt → Prop
  | .v d, s => s = .val d
  | .o l, s => s = .own false l
  | .e l, s => s = .own false l ∨ s = .val (.list l)
  | .j, s => ∀ l, s ≠ .own true l
abbrev Fs := List Sk
inductive Fr : Fs → Rho → Prop
  | nil : Fr [] []
  | cons {k : Sk} {s : Slt} {ks : Fs} {ss : Rho} : Sok k s → Fr ks ss → Fr (k :: ks) (s :: ss)
theorem Sok.wr {k : Sk} {s : Slt} (h : Sok k s) : ∀ l, s ≠ .own true l := by
  intro l e
  cases k with
  | v d => rw [show s = _ from h] at e; cases e
  | o m => rw [show s = _ from h] at e; cases e
  | e m => rcases (show _ ∨ _ from h) with h | h <;> (rw [h] at e; cases e)
  | j => exact h l e
theorem Fr.get : ∀ {F : Fs} {ρ : Rho} {i : Nat} {k : Sk}, Fr F ρ → F[i]? = some k → ∃ s, ρ[i]? = some s ∧ Sok k s
  | _, _, i, k, .nil, e => by simp at e
  | _, _, 0, k, .cons h _, e => by simp at e; subst e; exact ⟨_, rfl, h⟩
  | _, _, i + 1, k, .cons _ t, e => by
    obtain ⟨s, h1, h2⟩ := Fr.get (i := i) (k := k) t (by simpa using e)
    exact ⟨s, by simpa using h1, h2⟩
theorem Fr.set {k : Sk} {s : Slt} (hk : Sok k s) : ∀ {F : Fs} {ρ : Rho} (i : Nat), Fr F ρ → Fr (F.set i k) (ρ.set i s)
  | _, _, _, .nil => .nil
  | _, _, 0, .cons _ t => .cons hk t
  | _, _, i + 1, .cons h t => .cons h (Fr.set hk i t)
theorem Fr.len : ∀ {F : Fs} {ρ : Rho}, Fr F ρ → ρ.length = F.length
  | _, _, .nil => rfl
  | _, _, .cons _ t => by simp [Fr.len t]
theorem Fr.app : ∀ {F G : Fs} {ρ σ : Rho}, Fr F ρ → Fr G σ → Fr (F ++ G) (ρ ++ σ)
  | _, _, _, _, .nil, s => s
  | _, _, _, _, .cons h t, s => .cons h (Fr.app t s)
theorem Fr.take : ∀ {F G : Fs} {ρ : Rho}, Fr (F ++ G) ρ → Fr F (ρ.take F.length)
  | [], _, _, _ => by simpa using Fr.nil
  | _ :: F, _, _, .cons h t => .cons h (Fr.take (F := F) t)
section
variable {F : Fs} {ρ ρ1 ρ2 : Rho} {i : Nat} {k : Sk} {d : PD} {l : List PD}
theorem Fr.wr (h : Fr F ρ) (e : F[i]? = some k) : wr ρ i = true := by
  obtain ⟨s, h1, h2⟩ := h.get e
  exact wr_j h1 h2.wr
def Le (a b : Sk) : Prop := ∀ s, Sok a s → Sok b s
theorem le_r {a : Sk} : Le a a := fun _ h => h
theorem le_j {a : Sk} : Le a .j := fun _ h => h.wr
theorem le_oe : Le (.o l) (.e l) := fun _ h => .inl h
inductive Les : Fs → Fs → Prop
  | nil : Les [] []
  | cons {a b : Sk} {as bs : Fs} : Le a b → Les as bs → Les (a :: as) (b :: bs)
theorem Fr.weak : ∀ {F G : Fs} {ρ : Rho}, Les F G → Fr F ρ → Fr G ρ
  | _, _, _, .nil, .nil => .nil
  | _, _, _, .cons h t, .cons a b => .cons (h _ a) (Fr.weak t b)
end
def EvV (f : Ev) (F : Fs) (E : Option PD) : Prop := ∀ ρ, Fr F ρ → ∀ d, E = some d → ∃ ρ', f ρ = some (.val d, ρ') ∧ Fr F ρ'
def EvN (f : Ev) (F : Fs) (L : Option (List PD)) : Prop := ∀ ρ, Fr F ρ → ∀ l, L = some l → ∃ ρ', f ρ = some (.new l, ρ') ∧ Fr F ρ'
def EvP (f : Ev) (F : Fs) (E : Option PD) : Prop := ∀ ρ, Fr F ρ → ∀ d, E = some d → ∃ r ρ', f ρ = some (r, ρ') ∧ Fr F ρ' ∧ ∀ ρ'', Fr F ρ'' → pk r ρ'' = some d
def EvF (f : Ev) (F : Fs) (E : Option PD) : Prop := ∀ ρ, Fr F ρ → ∀ d, E = some d → ∃ ρ', fVal f ρ = some (.val d, ρ') ∧ Fr F ρ'
def EvA (f : Ea) (F : Fs) (L : Option (List PD)) : Prop := ∀ ρ, Fr F ρ → ∀ l, L = some l → ∃ ρ', f ρ = some (l, ρ') ∧ Fr F ρ'
def EvT (g : Et) (F : Fs) (T : Option Bool) : Prop := ∀ ρ, Fr F ρ → ∀ b, T = some b → ∃ ρ', g ρ = some (b, ρ') ∧ Fr F ρ'
section
variable {f f1 f2 f3 : Ev} {fs : Ea} {g g1 g2 : Et} {F : Fs} {E E1 E2 E3 : Option PD} {L : Option (List PD)} {T T1 T2 : Option Bool} {d : PD} {i : Nat} {l : List PD}
theorem EvV.p (h : EvV f F E) : EvP f F E := fun ρ R d e => by
  obtain ⟨ρ', h1, h2⟩ := h ρ R d e
  exact ⟨_, ρ', h1, h2, fun _ _ => rfl⟩
theorem EvN.p (h : EvN f F L) : EvP f F (xL L) := fun ρ R d e => by
  obtain ⟨l, e1, rfl⟩ := xL_some e
  obtain ⟨ρ', h1, h2⟩ := h ρ R l e1
  exact ⟨_, ρ', h1, h2, fun _ _ => rfl⟩
theorem EvV.fz (h : EvV f F E) : EvF f F E := fun ρ R d e => by
  obtain ⟨ρ', h1, h2⟩ := h ρ R d e
  exact ⟨ρ', val_v h1, h2⟩
theorem EvN.fz (h : EvN f F L) : EvF f F (xL L) := fun ρ R d e => by
  obtain ⟨l, e1, rfl⟩ := xL_some e
  obtain ⟨ρ', h1, h2⟩ := h ρ R l e1
  exact ⟨ρ', val_eq h1 rfl, h2⟩
theorem EvF.v (h : EvF f F E) : EvV (fVal f) F E := h
theorem ev_loc (h : F[i]? = some (.v d)) : EvV (fLoc i) F (some d) := fun ρ R d' e => by
  cases e
  obtain ⟨s, h1, h2⟩ := R.get h
  have h2 : s = .val d := h2
  subst h2
  exact ⟨ρ, by unfold fLoc; rw [h1], R⟩
theorem ev_own (h : F[i]? = some (.o l)) : EvP (fLoc i) F (some (.list l)) := fun ρ R d' e => by
  cases e
  obtain ⟨s, h1, h2⟩ := R.get h
  have h2 : s = .own false l := h2
  subst h2
  refine ⟨.slot i, ρ, by unfold fLoc; rw [h1], R, fun ρ2 R2 => ?_⟩
  obtain ⟨s, h3, h4⟩ := R2.get h
  have h4 : s = .own false l := h4
  subst h4
  simp only [pk, h3]
theorem ev_e (h : F[i]? = some (.e l)) : EvP (fLoc i) F (some (.list l)) := fun ρ R d' e => by
  cases e
  obtain ⟨s, h1, h2⟩ := R.get h
  rcases (show _ ∨ _ from h2) with h2 | h2
  · subst h2
    refine ⟨.slot i, ρ, by unfold fLoc; rw [h1], R, fun ρ2 R2 => ?_⟩
    obtain ⟨s, h3, h4⟩ := R2.get h
    rcases (show _ ∨ _ from h4) with h4 | h4 <;> (subst h4; simp only [pk, h3])
  · subst h2
    exact ⟨.val (.list l), ρ, by unfold fLoc; rw [h1], R, fun _ _ => rfl⟩
theorem set_id {α : Type} {xs : List α} {i : Nat} {a : α} (h : xs[i]? = some a) : xs.set i a = xs := set_get_self h
theorem ev_frz (h : F[i]? = some (.e l)) : EvF (fLoc i) F (some (.list l)) := fun ρ R d' e => by
  cases e
  obtain ⟨s, h1, h2⟩ := R.get h
  rcases (show _ ∨ _ from h2) with h2 | h2
  · subst h2
    refine ⟨ρ.set i (.val (.list l)), val_eq (r := .slot i) (ρ1 := ρ) ?_ ?_, ?_⟩
    · unfold fLoc; rw [h1]
    · simp only [fzn, h1]
    · have := R.set (k := .e l) (s := .val (.list l)) (.inr rfl) i
      rwa [set_id h] at this
  · subst h2
    exact ⟨ρ, val_v (by unfold fLoc; rw [h1]), R⟩
theorem ev_cst : EvV (fCst d) F (some d) := fun ρ R d' e => by cases e; exact ⟨ρ, rfl, R⟩
theorem ev_bin {h z : PD → PD → Option Rs} (hz : h = z) (h1 : EvP f1 F E1) (h2 : EvP f2 F E2) : EvV (fBin h f1 f2) F (xBin z E1 E2) := fun ρ R d e => by
  subst hz
  obtain ⟨a, b, e1, e2, e3⟩ := x2_some e
  obtain ⟨r1, ρ1, p1, R1, q1⟩ := h1 ρ R a e1
  obtain ⟨r2, ρ2, p2, R2, q2⟩ := h2 ρ1 R1 b e2
  exact ⟨ρ2, bin_eq p1 p2 (q1 _ R2) (q2 _ R2) (oV_some e3), R2⟩
theorem ev_binN {h z : PD → PD → Option Rs} (hz : h = z) (h1 : EvP f1 F E1) (h2 : EvP f2 F E2) : EvN (fBin h f1 f2) F (xBinN z E1 E2) := fun ρ R d e => by
  subst hz
  obtain ⟨a, b, e1, e2, e3⟩ := x2_some e
  obtain ⟨r1, ρ1, p1, R1, q1⟩ := h1 ρ R a e1
  obtain ⟨r2, ρ2, p2, R2, q2⟩ := h2 ρ1 R1 b e2
  exact ⟨ρ2, bin_eq p1 p2 (q1 _ R2) (q2 _ R2) (oN_some e3), R2⟩
theorem ev_un {h z : PD → Option Rs} (hz : h = z) (h1 : EvP f F E) : EvV (fUn h f) F (xUn z E) := fun ρ R d e => by
  subst hz
  obtain ⟨a, e1, e3⟩ := x1_some e
  obtain ⟨r1, ρ1, p1, R1, q1⟩ := h1 ρ R a e1
  exact ⟨ρ1, un_eq p1 (q1 _ R1) (oV_some e3), R1⟩
theorem ev_unN {h z : PD → Option Rs} (hz : h = z) (h1 : EvP f F E) : EvN (fUn h f) F (xUnN z E) := fun ρ R d e => by
  subst hz
  obtain ⟨a, e1, e3⟩ := x1_some e
  obtain ⟨r1, ρ1, p1, R1, q1⟩ := h1 ρ R a e1
  exact ⟨ρ1, un_eq p1 (q1 _ R1) (oN_some e3), R1⟩
theorem ev_isi {t : String} {n : Nat} (hz : isiD t = isF n) (h1 : EvP f F E) : EvV (fIsi t f) F (xIsi n E) := fun ρ R d e => by
  obtain ⟨a, e1, e3⟩ := x1_some e
  obtain ⟨b, e4, e5⟩ := x1_some e3
  cases e5
  obtain ⟨r1, ρ1, p1, R1, q1⟩ := h1 ρ R a e1
  refine ⟨ρ1, ?_, R1⟩
  unfold fIsi
  rw [p1, Option.bind_some, q1 _ R1, Option.bind_some, hz, e4] <;> rfl
theorem ev_isTL (h1 : EvP f F E) : EvV (fIsiA ["tuple", "list"] f) F (xIsTL E) := fun ρ R d e => by
  obtain ⟨a, e1, e3⟩ := x1_some e
  obtain ⟨b, e4, e5⟩ := x1_some e3
  cases e5
  obtain ⟨r1, ρ1, p1, R1, q1⟩ := h1 ρ R a e1
  refine ⟨ρ1, ?_, R1⟩
  rw [fIsTL_z]
  unfold z_fIsTL
  rw [p1, Option.bind_some, ← pk_z, q1 _ R1, Option.bind_some, e4] <;> rfl
theorem ev_chain {h1 h2 z1 z2 : PD → PD → Option Rs} (e1 : h1 = z1) (e2 : h2 = z2) (p1 : EvP f1 F E1) (p2 : EvP f2 F E2) (p3 : EvP f3 F E3) : EvV (fChain h1 h2 f1 f2 f3) F (xChain z1 z2 E1 E2 E3) := fun ρ R d e => by
  subst e1 e2
  obtain ⟨a, b, e1, e2, e3⟩ := x2_some e
  obtain ⟨k, e4, e5⟩ := x1_some e3
  obtain ⟨r1, ρ1, a1, R1, b1⟩ := p1 ρ R a e1
  obtain ⟨r2, ρ2, a2, R2, b2⟩ := p2 ρ1 R1 b e2
  unfold fChain
  rw [a1, Option.bind_some, a2, Option.bind_some, b1 _ R2, Option.bind_some, b2 _ R2, Option.bind_some, oV_some e4, Option.bind_some]
  split at e5
  · obtain ⟨c, e6, e7⟩ := x1_some e5
    obtain ⟨r3, ρ3, a3, R3, b3⟩ := p3 ρ2 R2 c e6
    exact ⟨ρ3, by simp only [if_true, a3, Option.bind_some, b2 _ R3, b3 _ R3, oV_some e7, Option.map_some], R3⟩
  · cases e5
    exact ⟨ρ2, by simp, R2⟩
  · cases e5
theorem ev_and (h1 : EvV f1 F E1) (h2 : EvV f2 F E2) : EvV (fAnd f1 f2) F (xAnd E1 E2) := fun ρ R d e => by
  obtain ⟨k, e1, e2⟩ := x1_some e
  obtain ⟨ρ1, a1, R1⟩ := h1 ρ R k e1
  unfold fAnd
  rw [a1, Option.bind_some]
  split at e2
  · obtain ⟨ρ2, a2, R2⟩ := h2 ρ1 R1 d e2
    exact ⟨ρ2, by simp [a2], R2⟩
  · cases e2; exact ⟨ρ1, by simp, R1⟩
  · cases e2
theorem ev_or (h1 : EvV f1 F E1) (h2 : EvV f2 F E2) : EvV (fOr f1 f2) F (xOr E1 E2) := fun ρ R d e => by
  obtain ⟨k, e1, e2⟩ := x1_some e
  obtain ⟨ρ1, a1, R1⟩ := h1 ρ R k e1
  unfold fOr
  rw [a1, Option.bind_some]
  split at e2
  · obtain ⟨ρ2, a2, R2⟩ := h2 ρ1 R1 d e2
    exact ⟨ρ2, by simp [a2], R2⟩
  · cases e2; exact ⟨ρ1, by simp, R1⟩
  · cases e2
theorem ev_not (h1 : EvV f F E) : EvV (fNot f) F (xNot E) := fun ρ R d e => by
  obtain ⟨k, e1, e2⟩ := x1_some e
  obtain ⟨ρ1, a1, R1⟩ := h1 ρ R k e1
  unfold fNot
  rw [a1, Option.bind_some]
  split at e2
  · cases e2; exact ⟨ρ1, by simp only [← notR_eq], R1⟩
  · cases e2
theorem ev_ite (hg : EvT g F T) (h1 : EvV f1 F E1) (h2 : EvV f2 F E2) : EvV (fIte g f1 f2) F (xIf T E1 E2) := fun ρ R d e => by
  obtain ⟨k, e1, e2⟩ := x1_some e
  obtain ⟨ρ1, a1, R1⟩ := hg ρ R k e1
  unfold fIte
  rw [a1, Option.bind_some]
  cases k
  · obtain ⟨ρ2, a2, R2⟩ := h2 ρ1 R1 d e2
    exact ⟨ρ2, by simp [a2], R2⟩
  · obtain ⟨ρ2, a2, R2⟩ := h1 ρ1 R1 d e2
    exact ⟨ρ2, by simp [a2], R2⟩
theorem ev_tst (h : EvV f F E) : EvT (fTst f) F (bT E) := fun ρ R b e => by
  obtain ⟨ρ1, a1, R1⟩ := h ρ R _ (bT_some e)
  exact ⟨ρ1, by unfold fTst; rw [a1, Option.bind_some], R1⟩
theorem ev_gnot (h : EvT g F T) : EvT (gNot g) F (tNot T) := fun ρ R b e => by
  obtain ⟨k, e1, e2⟩ := x1_some e
  cases e2
  obtain ⟨ρ1, a1, R1⟩ := h ρ R k e1
  exact ⟨ρ1, by unfold gNot; rw [a1, ← notR_eq] <;> rfl, R1⟩
theorem ev_gand (h1 : EvT g1 F T1) (h2 : EvT g2 F T2) : EvT (gAnd g1 g2) F (tAnd T1 T2) := fun ρ R b e => by
  obtain ⟨k, e1, e2⟩ := x1_some e
  obtain ⟨ρ1, a1, R1⟩ := h1 ρ R k e1
  unfold gAnd
  rw [a1, Option.bind_some]
  cases k
  · cases e2; exact ⟨ρ1, by simp, R1⟩
  · obtain ⟨ρ2, a2, R2⟩ := h2 ρ1 R1 b e2
    exact ⟨ρ2, by simp [a2], R2⟩
theorem ev_gor (h1 : EvT g1 F T1) (h2 : EvT g2 F T2) : EvT (gOr g1 g2) F (tOr T1 T2) := fun ρ R b e => by
  obtain ⟨k, e1, e2⟩ := x1_some e
  obtain ⟨ρ1, a1, R1⟩ := h1 ρ R k e1
  unfold gOr
  rw [a1, Option.bind_some]
  cases k
  · obtain ⟨ρ2, a2, R2⟩ := h2 ρ1 R1 b e2
    exact ⟨ρ2, by simp [a2], R2⟩
  · cases e2; exact ⟨ρ1, by simp, R1⟩
theorem ev_gyes : EvT gYes F (some true) := fun ρ R b e => by cases e; exact ⟨ρ, rfl, R⟩
theorem ea_nil : EvA aNil F (some []) := fun ρ R l e => by cases e; exact ⟨ρ, rfl, R⟩
theorem ea_cons (h1 : EvF f F E) (h2 : EvA fs F L) : EvA (aCons f fs) F (xc E L) := fun ρ R l e => by
  unfold xc at e
  cases E with
  | none => cases e
  | some d =>
    cases L with
    | none => cases e
    | some m =>
      cases e
      obtain ⟨ρ1, a1, R1⟩ := h1 ρ R d rfl
      obtain ⟨ρ2, a2, R2⟩ := h2 ρ1 R1 m rfl
      exact ⟨ρ2, acons_eq a1 a2, R2⟩
theorem ea_star (h1 : EvF f F E) (h2 : EvA fs F L) : EvA (aStar f fs) F (xst E L) := fun ρ R l e => by
  unfold xst at e
  split at e
  · rename_i m
    split at e
    · rename_i q
      cases e
      obtain ⟨ρ1, a1, R1⟩ := h1 ρ R _ rfl
      obtain ⟨ρ2, a2, R2⟩ := h2 ρ1 R1 _ rfl
      exact ⟨ρ2, by unfold aStar; rw [a1, Option.bind_some]; simp only [a2, Option.map_some, appR_eq], R2⟩
    · cases e
  · rename_i m
    split at e
    · rename_i q
      cases e
      obtain ⟨ρ1, a1, R1⟩ := h1 ρ R _ rfl
      obtain ⟨ρ2, a2, R2⟩ := h2 ρ1 R1 _ rfl
      exact ⟨ρ2, by unfold aStar; rw [a1, Option.bind_some]; simp only [a2, Option.map_some, appR_eq], R2⟩
    · cases e
  · cases e
theorem xT_some (h : xT L = some d) : ∃ l, L = some l ∧ l.length ≤ sizeLine ∧ d = .tuple l := by
  unfold xT at h
  split at h
  · split at h
    · rename_i hl
      cases h
      exact ⟨_, rfl, lt24_ok hl, rfl⟩
    · cases h
  · cases h
theorem xS_some (h : xS L = some l) : L = some l ∧ l.length ≤ sizeLine := by
  unfold xS at h
  split at h
  · split at h
    · rename_i hl
      cases h
      exact ⟨rfl, lt24_ok hl⟩
    · cases h
  · cases h
theorem ev_tup (h : EvA fs F L) : EvV (fTup fs) F (xT L) := fun ρ R d e => by
  obtain ⟨l, e1, hl, rfl⟩ := xT_some e
  obtain ⟨ρ1, a1, R1⟩ := h ρ R l e1
  exact ⟨ρ1, by unfold fTup; rw [a1, Option.bind_some]; exact if_pos hl, R1⟩
theorem ev_lst (h : EvA fs F L) : EvN (fLst fs) F (xS L) := fun ρ R d e => by
  obtain ⟨e1, hl⟩ := xS_some e
  obtain ⟨ρ1, a1, R1⟩ := h ρ R d e1
  exact ⟨ρ1, by unfold fLst; rw [a1, Option.bind_some]; exact if_pos hl, R1⟩
theorem ev_call {G0 : Fn0} {G : List PD → Option PD} (hG : ∀ ds r, G ds = some r → G0 ds = some r) (h : EvA fs F L) : EvV (fCall0 G0 fs) F (x1 L G) := fun ρ R d e => by
  obtain ⟨l, e1, e2⟩ := x1_some e
  obtain ⟨ρ1, a1, R1⟩ := h ρ R l e1
  exact ⟨ρ1, call0_eq a1 (hG l d e2), R1⟩
theorem ev_app {h : List PD → Option Rs} (hl : EvA fs F L) : EvV (fApp h fs) F (xApp h L) := fun ρ R d e => by
  obtain ⟨l, e1, e2⟩ := x1_some e
  obtain ⟨ρ1, a1, R1⟩ := hl ρ R l e1
  exact ⟨ρ1, by unfold fApp; rw [a1, Option.bind_some, oV_some e2] <;> rfl, R1⟩
theorem ev_cnt (h1 : EvP f1 F E1) (h2 : EvP f2 F E2) : EvV (fCnt f1 f2) F (xCnt E1 E2) := fun ρ R d e => by
  obtain ⟨a, b, e1, e2, e3⟩ := x2_some e
  obtain ⟨r1, ρ1, p1, R1, q1⟩ := h1 ρ R a e1
  obtain ⟨r2, ρ2, p2, R2, q2⟩ := h2 ρ1 R1 b e2
  refine ⟨ρ2, ?_, R2⟩
  unfold fCnt
  rw [p1, Option.bind_some, p2, Option.bind_some, q1 _ R1, Option.bind_some]
  simp only [q1 _ R2, q2 _ R2, Option.bind_some, if_true, hCnt_z, oV_some e3, Option.map_some]
theorem ev_listR1 (h : EvV f F E) : EvN (fListR1 f) F (xListR1 E) := fun ρ R l e => by
  obtain ⟨a, e1, e2⟩ := x1_some e
  obtain ⟨ρ1, a1, R1⟩ := h ρ R a e1
  refine ⟨ρ1, ?_, R1⟩
  unfold fListR1
  rw [a1, Option.bind_some]
  split at e2
  · simp only [fRg_z, oN_some e2, Option.map_some]
  · cases e2
theorem ev_tupR1 (h : EvV f F E) : EvV (fTupR1 f) F (xTupR1 E) := fun ρ R l e => by
  obtain ⟨a, e1, e2⟩ := x1_some e
  obtain ⟨ρ1, a1, R1⟩ := h ρ R a e1
  refine ⟨ρ1, ?_, R1⟩
  unfold fTupR1
  rw [a1, Option.bind_some]
  split at e2
  · simp only [fRgT_z, oV_some e2, Option.map_some]
  · cases e2
def EvO (f : Ep) (F : Fs) (E : Option (Option Int)) : Prop := ∀ ρ, Fr F ρ → ∀ o, E = some o → ∃ ρ', f ρ = some (o, ρ') ∧ Fr F ρ'
theorem eo_no : EvO pNo F (some none) := fun ρ R o e => by cases e; exact ⟨ρ, rfl, R⟩
theorem eo_some (h : EvV f F E) : EvO (pSome f) F (xOs E) := fun ρ R o e => by
  obtain ⟨a, e1, e2⟩ := x1_some e
  obtain ⟨ρ1, a1, R1⟩ := h ρ R a e1
  refine ⟨ρ1, ?_, R1⟩
  unfold pSome
  rw [a1, Option.bind_some]
  split at e2
  · cases e2; try rfl
  · cases e2
theorem ev_sl {lo hi : Ep} {A B : Option (Option Int)} (h : EvP f F E) (h1 : EvO lo F A) (h2 : EvO hi F B) : EvV (fSl f lo hi) F (xSl E A B) := fun ρ R r e => by
  obtain ⟨d, e1, e2⟩ := x1_some e
  obtain ⟨a, e3, e4⟩ := x1_some e2
  obtain ⟨b, e5, e6⟩ := x1_some e4
  obtain ⟨r1, ρ1, p1, R1, q1⟩ := h ρ R d e1
  obtain ⟨ρ2, a2, R2⟩ := h1 ρ1 R1 a e3
  obtain ⟨ρ3, a3, R3⟩ := h2 ρ2 R2 b e5
  refine ⟨ρ3, ?_, R3⟩
  unfold fSl
  rw [p1, Option.bind_some, a2, Option.bind_some, a3, Option.bind_some, q1 _ R3, Option.bind_some, oV_some e6] <;> rfl
theorem ev_slN {lo hi : Ep} {A B : Option (Option Int)} (h : EvP f F E) (h1 : EvO lo F A) (h2 : EvO hi F B) : EvN (fSl f lo hi) F (xSlN E A B) := fun ρ R r e => by
  obtain ⟨d, e1, e2⟩ := x1_some e
  obtain ⟨a, e3, e4⟩ := x1_some e2
  obtain ⟨b, e5, e6⟩ := x1_some e4
  obtain ⟨r1, ρ1, p1, R1, q1⟩ := h ρ R d e1
  obtain ⟨ρ2, a2, R2⟩ := h1 ρ1 R1 a e3
  obtain ⟨ρ3, a3, R3⟩ := h2 ρ2 R2 b e5
  refine ⟨ρ3, ?_, R3⟩
  unfold fSl
  rw [p1, Option.bind_some, a2, Option.bind_some, a3, Option.bind_some, q1 _ R3, Option.bind_some, oN_some e6] <;> rfl
theorem ei_seq (h : EvF f F E) : EvA (Dv.iSeq f) F (xI E) := fun ρ R l e => by
  unfold xI at e
  split at e <;> first | (cases e; obtain ⟨ρ1, a1, R1⟩ := h ρ R _ rfl; exact ⟨ρ1, by unfold Dv.iSeq; rw [a1] <;> rfl, R1⟩) | cases e
theorem ei_r1 (h : EvA fs F L) : EvA (Dv.iRng1 fs) F (xR1 L) := fun ρ R l e => by
  obtain ⟨m, e1, e2⟩ := x1_some e
  obtain ⟨ρ1, a1, R1⟩ := h ρ R m e1
  refine ⟨ρ1, ?_, R1⟩
  rw [iRng1_z]
  unfold z_iRng1
  rw [a1, Option.bind_some]
  split at e2
  · split at e2
    · cases e2
      rename_i hs
      simp only [hs]
    · cases e2
  · cases e2
theorem ei_r2 (h : EvA fs F L) : EvA (Dv.iRng2 fs) F (xR2 L) := fun ρ R l e => by
  obtain ⟨m, e1, e2⟩ := x1_some e
  obtain ⟨ρ1, a1, R1⟩ := h ρ R m e1
  refine ⟨ρ1, ?_, R1⟩
  rw [iRng2_z]
  unfold z_iRng2
  rw [a1, Option.bind_some]
  split at e2
  · split at e2
    · split at e2
      · cases e2
        rename_i hs1 _ hs
        simp only [hs, hs1]
      · cases e2
    · cases e2
  · cases e2
end
end
end Ha
set_option Elab.async false
set_option linter.all false
set_option maxRecDepth 100000
set_option maxHeartbeats 4000000
namespace Ha
open PySem PySem.Spec PyProof.Rows L2 Gq Dv Lw Fz Gd
noncomputable section
section
variable {f f1 f2 f3 : Ev} {fs : Ea} {g g1 g2 : Et} {F F1 F2 : Fs} {E E1 E2 E3 : Option PD} {L : Option (List PD)} {T T1 T2 : Option Bool} {d : PD} {i : Nat} {l : List PD} {ρ : Rho} {k : Sk}
theorem set_idF (h : F[i]? = some k) : F.set i k = F := set_get_self h
theorem cmp_dir {vs : List Nat} {st : PD → Rho → Option Rho} {g : Et} {fe : Ev} {T : PD → Option Bool} {V : PD → Option PD} {Fj : Fs} {Fd : PD → Fs} (hw : ∀ ρ, Fr Fj ρ → Fr Fj (wR ρ vs)) (hst : ∀ d ρ, Fr Fj ρ → T d ≠ none → ∃ ρ', st d ρ = some ρ' ∧ Fr (Fd d) ρ')
    (hb : ∀ d ρ, Fr (Fd d) ρ → Fr Fj ρ) (hg : ∀ d, EvT g (Fd d) (T d)) (he : ∀ d, EvF fe (Fd d) (V d)) : ∀ (ds ys : List PD) (ρ : Rho), Fr Fj ρ → xcmp T V ds = some ys → ∃ ρ', cmpL vs st g fe ds ρ = some (ys, ρ') ∧ Fr Fj ρ'
  | [], ys, ρ, R, e => by
    cases e
    exact ⟨_, rfl, hw ρ R⟩
  | d :: ds, ys, ρ, R, e => by
    have e' : (match T d with
      | some true => match V d with
        | some y => match xcmp T V ds with
          | some ys => some (y :: ys)
          | none => none
        | none => none
      | some false => xcmp T V ds
      | none => none) = some ys := e
    have hT0 : T d ≠ none := fun z => by rw [z] at e'; cases e'
    obtain ⟨ρ1, a1, R1⟩ := hst d (wR ρ vs) (hw ρ R) hT0
    unfold cmpL
    rw [a1, Option.bind_some]
    split at e'
    · rename_i hT
      obtain ⟨ρ2, a2, R2⟩ := hg d ρ1 R1 true hT
      split at e'
      · rename_i y hV
        obtain ⟨ρ3, a3, R3⟩ := he d ρ2 R2 y hV
        split at e'
        · rename_i zs hz
          cases e'
          obtain ⟨ρ', e1, e2⟩ := cmp_dir hw hst hb hg he ds zs ρ3 (hb d _ R3) hz
          refine ⟨ρ', ?_, e2⟩
          rw [a2, Option.bind_some, if_pos rfl, a3, Option.bind_some]
          simp only [e1, Option.map_some]
        · cases e'
      · cases e'
    · rename_i hT
      obtain ⟨ρ2, a2, R2⟩ := hg d ρ1 R1 false hT
      obtain ⟨ρ', e1, e2⟩ := cmp_dir hw hst hb hg he ds ys ρ2 (hb d _ R2) e'
      refine ⟨ρ', ?_, e2⟩
      rw [a2, Option.bind_some]
      simp only [Bool.false_eq_true, if_false, e1]
    · cases e'
theorem sok_no : Sok .j .no := fun l h => by cases h
theorem sok_v {d : PD} : Sok (.v d) (.val d) := rfl
theorem sok_o {l : List PD} : Sok (.o l) (.own false l) := rfl
theorem les_r : ∀ F : Fs, Les F F
  | [] => .nil
  | a :: F => .cons le_r (les_r F)
theorem les_set {a b : Sk} (h : Le a b) : ∀ {F G : Fs} (v : Nat), Les F G → Les (F.set v a) (G.set v b)
  | _, _, _, .nil => .nil
  | _, _, 0, .cons _ t => .cons h t
  | _, _, v + 1, .cons p t => .cons p (les_set h v t)
theorem les_j (v : Nat) (F : Fs) (h : F[v]? = some k) : Les F (F.set v .j) := by
  have := les_set (le_j (a := k)) v (les_r F)
  rwa [set_idF h] at this
theorem les_t : ∀ {A B C : Fs}, Les A B → Les B C → Les A C
  | _, _, _, .nil, .nil => .nil
  | _, _, _, .cons a s, .cons b t => .cons (fun x h => b x (a x h)) (les_t s t)
theorem ev_comp {v : Nat} {fi : Ea} {fe : Ev} {T : PD → Option Bool} {V : PD → Option PD} (hv : F[v]? = some k) (hi : EvA fi F L) (hg : ∀ d, EvT g (F.set v (.v d)) (T d)) (he : ∀ d, EvF fe (F.set v (.v d)) (V d)) :
    EvN (fComp [v] fi (stNm v) g fe) F (xComp L T V) := fun ρ R l e => by
  obtain ⟨m, e1, e2⟩ := x1_some e
  obtain ⟨e3, hl⟩ := xS_some e2
  obtain ⟨ρ1, a1, R1⟩ := hi ρ R m e1
  have hlen : v < F.length := (List.getElem?_eq_some_iff.mp hv).1
  have hj : (F.set v .j)[v]? = some .j := by rw [List.getElem?_set_self hlen]
  obtain ⟨ρ2, a2, R2⟩ := cmp_dir (vs := [v]) (st := stNm v) (Fj := F.set v .j) (Fd := fun d => F.set v (.v d))
    (fun ρ R => by have := R.set sok_no v; rw [set_set] at this; exact this)
    (fun d ρ R _ => ⟨ρ.set v (.val d), st_1 (R.wr hj), by have := R.set (sok_v (d := d)) v; rw [set_set] at this; exact this⟩)
    (fun d ρ R => R.weak (les_set le_j v (les_r F))) hg he m l ρ1 (R1.weak (les_j v F hv)) e3
  refine ⟨unw ρ1 ρ2 [v], comp_eq a1 a2 hl, ?_⟩
  obtain ⟨s, h1, h2⟩ := R1.get hv
  show Fr F (ρ2.set v ((ρ1[v]?).getD .no))
  rw [h1]
  have := R2.set h2 v
  rw [set_set, set_idF hv] at this
  exact this
theorem p2_none {α : Type} {d : PD} (h : ¬ ∃ a b, d = .tuple [a, b]) (K : PD → PD → Option α) : p2 d K = none := by
  unfold p2
  split
  · exact absurd ⟨_, _, rfl⟩ h
  · rfl
theorem ev_comp2 {v w : Nat} {k2 : Sk} {fi : Ea} {fe : Ev} {T : PD → PD → Option Bool} {V : PD → PD → Option PD} (hv : F[v]? = some k) (hw : F[w]? = some k2) (hne : v ≠ w) (hi : EvA fi F L)
    (hg : ∀ a b, EvT g ((F.set v (.v a)).set w (.v b)) (T a b)) (he : ∀ a b, EvF fe ((F.set v (.v a)).set w (.v b)) (V a b)) :
    EvN (fComp [v, w] fi (Dv.stTup [v, w]) g fe) F (xComp L (fun d => p2 d T) (fun d => p2 d V)) := fun ρ R l e => by
  obtain ⟨m, e1, e2⟩ := x1_some e
  obtain ⟨e3, hl⟩ := xS_some e2
  obtain ⟨ρ1, a1, R1⟩ := hi ρ R m e1
  have l1 : v < F.length := (List.getElem?_eq_some_iff.mp hv).1
  have l2 : w < F.length := (List.getElem?_eq_some_iff.mp hw).1
  have c1 : ∀ (a b : Sk) (G : Fs), (G.set v a).set w b = (G.set w b).set v a := fun a b G => List.set_comm _ _ hne
  have s4 : ∀ x y a b : Sk, ((((F.set v x).set w y).set v a).set w b) = (F.set v a).set w b := fun x y a b => by rw [← c1 a y (F.set v x), set_set, set_set]
  let ga : PD → PD := fun d => match d with | .tuple [a, _] => a | _ => .none
  let gb : PD → PD := fun d => match d with | .tuple [_, b] => b | _ => .none
  obtain ⟨ρ2, a2, R2⟩ := cmp_dir (vs := [v, w]) (st := Dv.stTup [v, w]) (T := fun d => p2 d T) (V := fun d => p2 d V) (Fj := (F.set v .j).set w .j) (Fd := fun d => (F.set v (.v (ga d))).set w (.v (gb d)))
    (fun ρ R => by
      show Fr _ ((ρ.set w .no).set v .no)
      have h1 := (R.set sok_no w).set sok_no v
      rw [set_set, ← c1 .j .j (F.set v .j), set_set] at h1
      exact h1)
    (fun d ρ R hT => by
      have hd : ∃ a b, d = .tuple [a, b] := Classical.byContradiction fun z => hT (p2_none z T)
      obtain ⟨a, b, rfl⟩ := hd
      have w1 : wr ρ v = true := R.wr (k := .j) (by rw [c1, List.getElem?_set_self (by rw [List.length_set]; exact l1)])
      have R2 := R.set (sok_v (d := a)) v
      have w2 : wr (ρ.set v (.val a)) w = true := R2.wr (k := .j) (by rw [List.getElem?_set_ne hne, List.getElem?_set_self (by rw [List.length_set]; exact l2)])
      refine ⟨(ρ.set v (.val a)).set w (.val b), ?_, ?_⟩
      · show (if wr ρ v = true then (if wr (ρ.set v (.val a)) w = true then some ((ρ.set v (.val a)).set w (.val b)) else none) else none) = _
        rw [if_pos w1, if_pos w2]
      · have h1 := R2.set (sok_v (d := b)) w
        rw [s4] at h1
        exact h1)
    (fun d ρ R => R.weak (les_set le_j w (les_set le_j v (les_r F))))
    (fun d => by
      by_cases hd : ∃ a b, d = .tuple [a, b]
      · obtain ⟨a, b, rfl⟩ := hd
        exact hg a b
      · show EvT g _ (p2 d T)
        rw [p2_none hd T]
        exact fun _ _ _ z => nomatch z)
    (fun d => by
      by_cases hd : ∃ a b, d = .tuple [a, b]
      · obtain ⟨a, b, rfl⟩ := hd
        exact he a b
      · show EvF fe _ (p2 d V)
        rw [p2_none hd V]
        exact fun _ _ _ z => nomatch z) m l ρ1 (R1.weak (les_t (les_j v F hv) (les_j w _ (k := k2) (by rw [List.getElem?_set_ne hne]; exact hw)))) e3
  refine ⟨unw ρ1 ρ2 [v, w], comp_eq a1 a2 hl, ?_⟩
  obtain ⟨s, h1, h2⟩ := R1.get hv
  obtain ⟨s', h3, h4⟩ := R1.get hw
  show Fr F ((ρ2.set w ((ρ1[w]?).getD .no)).set v ((ρ1[v]?).getD .no))
  rw [h1, h3]
  have h5 := (R2.set h4 w).set h2 v
  rw [set_set, ← c1 k k2 (F.set v .j), set_set, c1, set_idF hw, set_idF hv] at h5
  exact h5
theorem fr_add {n : Nat} (hn : F.length = n) (R : Fr F ρ) (d : PD) : stNm n d (ρ ++ noS 1) = some (ρ ++ [.val d]) := st_new1 (by rw [R.len]; exact hn) d
theorem trn_dir {st : PD → Rho → Option Rho} {m : Nat} {fe : Ev} {T : Option Bool} {V : Option PD} {G : Fs} {sl : Rho} (hst : st d (ρ ++ noS m) = some (ρ ++ sl)) (R : Fr F ρ) (Rs_ : Fr G sl) (hg : EvT g (F ++ G) T) (he : EvF fe (F ++ G) V) :
    (T = some false → ∃ ρ', trn m st g fe d ρ = some (none, ρ') ∧ Fr F ρ') ∧ (∀ y, T = some true → V = some y → ∃ ρ', trn m st g fe d ρ = some (some y, ρ') ∧ Fr F ρ') := by
  have R0 := Fr.app R Rs_
  refine ⟨fun e => ?_, fun y e1 e2 => ?_⟩
  · obtain ⟨ρ1, a1, R1⟩ := hg _ R0 _ e
    refine ⟨ρ1.take ρ.length, ?_, by rw [R.len]; exact R1.take⟩
    unfold trn
    rw [hst, Option.bind_some, a1, Option.bind_some]
    simp only [Bool.false_eq_true, if_false]
  · obtain ⟨ρ1, a1, R1⟩ := hg _ R0 _ e1
    obtain ⟨ρ2, a2, R2⟩ := he _ R1 _ e2
    refine ⟨ρ2.take ρ.length, ?_, by rw [R.len]; exact R2.take⟩
    unfold trn
    rw [hst, Option.bind_some, a1, Option.bind_some]
    simp only [if_true, a2, Option.bind_some]
section
variable {tr : PD → Rho → Option (Option PD × Rho)} {T : PD → Option Bool} {V : PD → Option PD}
def TrD (tr : PD → Rho → Option (Option PD × Rho)) (F : Fs) (T : PD → Option Bool) (V : PD → Option PD) : Prop :=
  ∀ d ρ, Fr F ρ → (T d = some false → ∃ ρ', tr d ρ = some (none, ρ') ∧ Fr F ρ') ∧ (∀ y, T d = some true → V d = some y → ∃ ρ', tr d ρ = some (some y, ρ') ∧ Fr F ρ')
theorem all_dir (h : TrD tr F T V) : ∀ (ds : List PD) (b : Bool) (ρ : Rho), Fr F ρ → xall T V ds = some b → ∃ ρ', allL tr ds ρ = some (b, ρ') ∧ Fr F ρ'
  | [], b, ρ, R, e => by cases e; exact ⟨ρ, rfl, R⟩
  | d :: ds, b, ρ, R, e => by
    have e' : (match T d with
      | some true => match V d with
        | some (.bool true) => xall T V ds
        | some (.bool false) => some false
        | _ => none
      | some false => xall T V ds
      | none => none) = some b := e
    unfold allL
    split at e'
    · rename_i hT
      split at e'
      · rename_i hV
        obtain ⟨ρ1, a1, R1⟩ := (h d ρ R).2 _ hT hV
        rw [a1, Option.bind_some]
        simp only [if_true]
        exact all_dir h ds b ρ1 R1 e'
      · rename_i hV
        cases e'
        obtain ⟨ρ1, a1, R1⟩ := (h d ρ R).2 _ hT hV
        rw [a1, Option.bind_some]
        simp only [Bool.false_eq_true, if_false]
        exact ⟨ρ1, rfl, R1⟩
      · cases e'
    · rename_i hT
      obtain ⟨ρ1, a1, R1⟩ := (h d ρ R).1 hT
      rw [a1, Option.bind_some]
      exact all_dir h ds b ρ1 R1 e'
    · cases e'
theorem any_dir (h : TrD tr F T V) : ∀ (ds : List PD) (b : Bool) (ρ : Rho), Fr F ρ → xany T V ds = some b → ∃ ρ', anyL tr ds ρ = some (b, ρ') ∧ Fr F ρ'
  | [], b, ρ, R, e => by cases e; exact ⟨ρ, rfl, R⟩
  | d :: ds, b, ρ, R, e => by
    have e' : (match T d with
      | some true => match V d with
        | some (.bool true) => some true
        | some (.bool false) => xany T V ds
        | _ => none
      | some false => xany T V ds
      | none => none) = some b := e
    unfold anyL
    split at e'
    · rename_i hT
      split at e'
      · rename_i hV
        cases e'
        obtain ⟨ρ1, a1, R1⟩ := (h d ρ R).2 _ hT hV
        rw [a1, Option.bind_some]
        simp only [if_true]
        exact ⟨ρ1, rfl, R1⟩
      · rename_i hV
        obtain ⟨ρ1, a1, R1⟩ := (h d ρ R).2 _ hT hV
        rw [a1, Option.bind_some]
        simp only [Bool.false_eq_true, if_false]
        exact any_dir h ds b ρ1 R1 e'
      · cases e'
    · rename_i hT
      obtain ⟨ρ1, a1, R1⟩ := (h d ρ R).1 hT
      rw [a1, Option.bind_some]
      exact any_dir h ds b ρ1 R1 e'
    · cases e'
theorem col_dir (h : TrD tr F T V) : ∀ (ds ys : List PD) (ρ : Rho), Fr F ρ → xcmp T V ds = some ys → ∃ ρ', colL tr ds ρ = some (ys, ρ') ∧ Fr F ρ'
  | [], ys, ρ, R, e => by cases e; exact ⟨ρ, rfl, R⟩
  | d :: ds, ys, ρ, R, e => by
    have e' : (match T d with
      | some true => match V d with
        | some y => match xcmp T V ds with
          | some ys => some (y :: ys)
          | none => none
        | none => none
      | some false => xcmp T V ds
      | none => none) = some ys := e
    unfold colL
    split at e'
    · rename_i hT
      split at e'
      · rename_i y hV
        split at e'
        · rename_i zs hz
          cases e'
          obtain ⟨ρ1, a1, R1⟩ := (h d ρ R).2 _ hT hV
          obtain ⟨ρ2, a2, R2⟩ := col_dir h ds zs ρ1 R1 hz
          rw [a1, Option.bind_some]
          exact ⟨ρ2, by simp only [a2, Option.map_some], R2⟩
        · cases e'
      · cases e'
    · rename_i hT
      obtain ⟨ρ1, a1, R1⟩ := (h d ρ R).1 hT
      rw [a1, Option.bind_some]
      exact col_dir h ds ys ρ1 R1 e'
    · cases e'
end
section
variable {fi : Ea} {fe : Ev} {n m : Nat} {T : PD → Option Bool} {V : PD → Option PD} {st : PD → Rho → Option Rho}
theorem tr1 (hn : F.length = n) (hg : ∀ d, EvT g (F ++ [.v d]) (T d)) (he : ∀ d, EvF fe (F ++ [.v d]) (V d)) : TrD (trn 1 (stNm n) g fe) F T V :=
  fun d ρ R => trn_dir (fr_add hn R d) R (.cons sok_v .nil) (hg d) (he d)
theorem ev_allG (ht : TrD (trn m st g fe) F T V) (hi : EvA fi F L) : EvV (fAllG m fi st g fe) F (xAllG L T V) := fun ρ R d e => by
  obtain ⟨l, e1, e2⟩ := x1_some e
  obtain ⟨b, e3, e4⟩ := x1_some e2
  cases e4
  obtain ⟨ρ1, a1, R1⟩ := hi ρ R l e1
  obtain ⟨ρ2, a2, R2⟩ := all_dir ht l b ρ1 R1 e3
  exact ⟨ρ2, by unfold fAllG; rw [a1, Option.bind_some]; simp only [a2, Option.map_some], R2⟩
theorem ev_anyG (ht : TrD (trn m st g fe) F T V) (hi : EvA fi F L) : EvV (fAnyG m fi st g fe) F (xAnyG L T V) := fun ρ R d e => by
  obtain ⟨l, e1, e2⟩ := x1_some e
  obtain ⟨b, e3, e4⟩ := x1_some e2
  cases e4
  obtain ⟨ρ1, a1, R1⟩ := hi ρ R l e1
  obtain ⟨ρ2, a2, R2⟩ := any_dir ht l b ρ1 R1 e3
  exact ⟨ρ2, by unfold fAnyG; rw [a1, Option.bind_some]; simp only [a2, Option.map_some], R2⟩
theorem ev_tupG (ht : TrD (trn m st g fe) F T V) (hi : EvA fi F L) : EvV (fTupG m fi st g fe) F (xTupG L T V) := fun ρ R d e => by
  obtain ⟨ys, e1, hl, rfl⟩ := xT_some e
  obtain ⟨l, e3, e4⟩ := x1_some e1
  obtain ⟨ρ1, a1, R1⟩ := hi ρ R l e3
  obtain ⟨ρ2, a2, R2⟩ := col_dir ht l ys ρ1 R1 e4
  exact ⟨ρ2, by unfold fTupG; rw [a1, Option.bind_some, a2, Option.bind_some]; exact if_pos hl, R2⟩
theorem ev_sumG (ht : TrD (trn m st g fe) F T V) (hi : EvA fi F L) : EvV (fSumG m fi st g fe) F (xSumG L T V) := fun ρ R d e => by
  obtain ⟨ys, e1, e2⟩ := x1_some e
  obtain ⟨l, e3, e4⟩ := x1_some e1
  unfold xsum at e2
  split at e2
  · rename_i j hj
    cases e2
    obtain ⟨ρ1, a1, R1⟩ := hi ρ R l e3
    obtain ⟨ρ2, a2, R2⟩ := col_dir ht l ys ρ1 R1 e4
    exact ⟨ρ2, by unfold fSumG; rw [a1, Option.bind_some, a2, Option.bind_some]; simp only [hj, Option.map_some], R2⟩
  · cases e2
end
section
variable {r : PD} {Q : Qs} {p1 q2 : Es}
theorem w_asgV {K : PD → Option PD} (hF : Fr F ρ) (h : EvV f F E) (hi : F[i]? = some k) (hk : x1 E K = some r) (h2 : ∀ d ρ', Fr (F.set i (.v d)) ρ' → K d = some r → Q.nx ρ') : W r Q (cAsg i f ρ) := by
  obtain ⟨d, e1, e2⟩ := x1_some hk
  obtain ⟨ρ1, a1, R1⟩ := h ρ hF d e1
  rw [asg_val a1 (R1.wr hi)]
  exact h2 d _ (R1.set sok_v i) e2
theorem w_asgN {K : List PD → Option PD} (hF : Fr F ρ) (h : EvN f F L) (hi : F[i]? = some k) (hk : x1 L K = some r) (h2 : ∀ l ρ', Fr (F.set i (.o l)) ρ' → K l = some r → Q.nx ρ') : W r Q (cAsg i f ρ) := by
  obtain ⟨d, e1, e2⟩ := x1_some hk
  obtain ⟨ρ1, a1, R1⟩ := h ρ hF d e1
  rw [asg_new a1 (R1.wr hi)]
  exact h2 d _ (R1.set sok_o i) e2
theorem w_asgE {j : Nat} {K : Option PD} (hF : Fr F ρ) (hj : F[j]? = some (.e l)) (hi : F[i]? = some k) (hk : K = some r) (h2 : ∀ ρ', Fr (F.set i (.e l)) ρ' → K = some r → Q.nx ρ') : W r Q (cAsg i (fVal (fLoc j)) ρ) := by
  obtain ⟨ρ1, a1, R1⟩ := ev_frz hj ρ hF _ rfl
  rw [asg_val a1 (R1.wr hi)]
  exact h2 _ (R1.set (k := .e l) (.inr rfl) i) hk
theorem w_asgF {K : PD → Option PD} (hF : Fr F ρ) (h : EvF f F E) (hi : F[i]? = some k) (hk : x1 E K = some r) (h2 : ∀ d ρ', Fr (F.set i (.v d)) ρ' → K d = some r → Q.nx ρ') : W r Q (cAsg i (fVal f) ρ) := by
  obtain ⟨d, e1, e2⟩ := x1_some hk
  obtain ⟨ρ1, a1, R1⟩ := h ρ hF d e1
  rw [asg_val a1 (R1.wr hi)]
  exact h2 d _ (R1.set sok_v i) e2
theorem w_if {K1 K2 : Option PD} (hF : Fr F ρ) (h : EvT g F T) (hk : xIf T K1 K2 = some r) (h1 : ∀ ρ', Fr F ρ' → K1 = some r → W r Q (p1 ρ')) (h2 : ∀ ρ', Fr F ρ' → K2 = some r → W r Q (q2 ρ')) : W r Q (cIf g p1 q2 ρ) := by
  obtain ⟨b, e1, e2⟩ := x1_some hk
  obtain ⟨ρ1, a1, R1⟩ := h ρ hF b e1
  cases b with
  | true => rw [if_tt a1 rfl]; exact h1 _ R1 e2
  | false => rw [if_ff a1 rfl]; exact h2 _ R1 e2
theorem w_ret (hF : Fr F ρ) (h : EvF f F E) (hk : E = some r) : W r Q (cRet f ρ) := by
  obtain ⟨ρ1, a1, R1⟩ := h ρ hF r hk
  unfold cRet
  rw [a1] <;> rfl
theorem w_exp {K : Option PD} (hF : Fr F ρ) (h : EvV f F E) (hk : (x1 E fun _ => K) = some r) (h2 : ∀ ρ', Fr F ρ' → K = some r → Q.nx ρ') : W r Q (cExp f ρ) := by
  obtain ⟨d, e1, e2⟩ := x1_some hk
  obtain ⟨ρ1, a1, R1⟩ := h ρ hF d e1
  rw [exp_eq a1]
  exact h2 _ R1 e2
theorem w_app {K : PD → Option PD} (hF : Fr F ρ) (hi : F[i]? = some (.o l)) (h : EvF f F E) (hk : (x1 E fun d => xapp l (K d)) = some r) (h2 : ∀ d ρ', Fr (F.set i (.o (appR l [d]))) ρ' → K d = some r → Q.nx ρ') : W r Q (cApp i f ρ) := by
  obtain ⟨d, e1, e2⟩ := x1_some hk
  obtain ⟨s, h0, h0'⟩ := hF.get hi
  have h0' : s = .own false l := h0'
  subst h0'
  obtain ⟨ρ1, a1, R1⟩ := h ρ hF d e1
  obtain ⟨s, h3, h3'⟩ := R1.get hi
  have h3' : s = .own false l := h3'
  subst h3'
  unfold xapp at e2
  split at e2
  · rename_i hl
    rw [cApp_z]
    unfold z_cApp
    rw [← getR_eq, h0]
    simp only [← fVal_z, a1, Option.bind_some, ← getR_eq, h3, hl, ← putR_eq]
    exact h2 d _ (R1.set sok_o i) e2
  · cases e2
theorem w_aug {h : Int → Int → Int} {a : PD} {K : PD → Option PD} (hF : Fr F ρ) (hi : F[i]? = some (.v a)) (he : EvV f F E) (hk : (x1 E fun b => x1 (pI2 a b h) K) = some r) (h2 : ∀ d ρ', Fr (F.set i (.v d)) ρ' → K d = some r → Q.nx ρ') : W r Q (cAug i h f ρ) := by
  obtain ⟨b, e1, e2⟩ := x1_some hk
  obtain ⟨d, e3, e4⟩ := x1_some e2
  obtain ⟨s, h0, h0'⟩ := hF.get hi
  have h0' : s = .val a := h0'
  subst h0'
  obtain ⟨ρ1, a1, R1⟩ := he ρ hF b e1
  unfold pI2 at e3
  split at e3
  · cases e3
    unfold cAug
    rw [h0]
    simp only [a1, Option.bind_some]
    rw [if_pos (R1.wr hi)]
    exact h2 _ _ (R1.set sok_v i) e4
  · cases e3
theorem w_unp2 {v w : Nat} {k2 : Sk} {K : PD → PD → Option PD} (hF : Fr F ρ) (h : EvV f F E) (hv : F[v]? = some k) (hw : ∀ a, (F.set v (.v a))[w]? = some k2) (hk : (x1 E fun d => p2 d K) = some r) (hn : ∀ a b ρ', Fr ((F.set v (.v a)).set w (.v b)) ρ' → K a b = some r → Q.nx ρ') : W r Q (cUnp [v, w] f ρ) := by
  obtain ⟨d, e1, e2⟩ := x1_some hk
  obtain ⟨ρ1, a1, R1⟩ := h ρ hF d e1
  unfold p2 at e2
  split at e2
  · rename_i a b
    unfold cUnp
    rw [a1, Option.bind_some]
    have R2 := R1.set (sok_v (d := a)) v
    have e : Dv.stTup [v, w] (.tuple [a, b]) ρ1 = some ((ρ1.set v (.val a)).set w (.val b)) := by
      show (if wr ρ1 v = true then (if wr (ρ1.set v (.val a)) w = true then some ((ρ1.set v (.val a)).set w (.val b)) else none) else none) = _
      rw [if_pos (R1.wr hv), if_pos (R2.wr (hw a))]
    simp only [e, Option.map_some]
    exact hn a b _ (R2.set sok_v w) e2
  · cases e2
def EvR (f : Er) (F : Fs) (E : Option (List Rs)) : Prop := ∀ ρ, Fr F ρ → ∀ l, E = some l → ∃ ρ', f ρ = some (l, ρ') ∧ Fr F ρ'
theorem er_nil : EvR rNil F (some []) := fun ρ R l e => by cases e; exact ⟨ρ, rfl, R⟩
theorem er_v {fs : Er} {R : Option (List Rs)} (h : EvV f F E) (hs : EvR fs F R) : EvR (rCons f fs) F (xrV E R) := fun ρ P l e => by
  unfold xrV at e
  split at e
  · rename_i d
    split at e
    · rename_i rs hd
      cases e
      obtain ⟨ρ1, a1, R1⟩ := h ρ P _ rfl
      obtain ⟨ρ2, a2, R2⟩ := hs ρ1 R1 _ rfl
      exact ⟨ρ2, rcons_val a1 a2, R2⟩
    · cases e
  · cases e
theorem er_n {fs : Er} {R : Option (List Rs)} (h : EvN f F L) (hs : EvR fs F R) : EvR (rCons f fs) F (xrN L R) := fun ρ P l e => by
  unfold xrN at e
  split at e
  · rename_i d
    split at e
    · rename_i rs hd
      cases e
      obtain ⟨ρ1, a1, R1⟩ := h ρ P _ rfl
      obtain ⟨ρ2, a2, R2⟩ := hs ρ1 R1 _ rfl
      exact ⟨ρ2, rcons_new a1 a2, R2⟩
    · cases e
  · cases e
theorem er_f {fs : Er} {R : Option (List Rs)} {l : List PD} (h : F[i]? = some (.e l)) (hs : EvR fs F R) : EvR (rCons (fLoc i) fs) F (xrV (some (.list l)) R) := fun ρ P m e => by
  unfold xrV at e
  split at e
  · rename_i d hd
    cases hd
    split at e
    · rename_i rs
      cases e
      obtain ⟨s, h1, h2⟩ := P.get h
      rcases (show _ ∨ _ from h2) with h2 | h2
      · subst h2
        have R1 := P.set (k := .e l) (s := .val (.list l)) (.inr rfl) i
        rw [set_idF h] at R1
        obtain ⟨ρ2, a2, R2⟩ := hs _ R1 _ rfl
        refine ⟨ρ2, ?_, R2⟩
        unfold rCons fHalf fLoc
        rw [h1]
        simp only [Option.bind_some, fzn, h1, Option.map_some, a2]
      · subst h2
        obtain ⟨ρ2, a2, R2⟩ := hs ρ P _ rfl
        exact ⟨ρ2, rcons_val (by unfold fLoc; rw [h1]) a2, R2⟩
    · cases e
  · cases e
theorem w_par {is : List Nat} {fs : Er} {R : Option (List Rs)} {K : List Rs → Option PD} (hF : Fr F ρ) (h : EvR fs F R) (hk : x1 R K = some r) (h2 : ∀ rs ρ', Fr F ρ' → K rs = some r → ∃ ρ2, putsR is rs ρ' = some ρ2 ∧ Q.nx ρ2) : W r Q (cParR is fs ρ) := by
  obtain ⟨rs, e1, e2⟩ := x1_some hk
  obtain ⟨ρ1, a1, R1⟩ := h ρ hF rs e1
  obtain ⟨ρ2, e3, e4⟩ := h2 rs ρ1 R1 e2
  rw [par_eq a1 e3]
  exact e4
theorem pt_v {is : List Nat} {rs : List Rs} {P : Rho → Prop} (hF : Fr F ρ) (hi : F[i]? = some k) (h : ∀ ρ', Fr (F.set i (.v d)) ρ' → ∃ ρ2, putsR is rs ρ' = some ρ2 ∧ P ρ2) : ∃ ρ2, putsR (i :: is) (.val d :: rs) ρ = some ρ2 ∧ P ρ2 := by
  obtain ⟨ρ2, e1, e2⟩ := h _ (hF.set (sok_v (d := d)) i)
  refine ⟨ρ2, ?_, e2⟩
  show (if wr ρ i = true then putsR is rs (ρ.set i (.val d)) else none) = _
  rw [if_pos (hF.wr hi), e1]
theorem pt_n {is : List Nat} {rs : List Rs} {P : Rho → Prop} (hF : Fr F ρ) (hi : F[i]? = some k) (h : ∀ ρ', Fr (F.set i (.o l)) ρ' → ∃ ρ2, putsR is rs ρ' = some ρ2 ∧ P ρ2) : ∃ ρ2, putsR (i :: is) (.new l :: rs) ρ = some ρ2 ∧ P ρ2 := by
  obtain ⟨ρ2, e1, e2⟩ := h _ (hF.set (k := .o l) (s := .own false l) rfl i)
  refine ⟨ρ2, ?_, e2⟩
  show (if wr ρ i = true then putsR is rs (ρ.set i (.own false l)) else none) = _
  rw [if_pos (hF.wr hi), e1]
theorem pt_z {P : Rho → Prop} (h : P ρ) : ∃ ρ2, putsR [] [] ρ = some ρ2 ∧ P ρ2 := ⟨ρ, rfl, h⟩
theorem w_for {fi : Ea} {st : PD → Rho → Option Rho} {b : Es} {K : List PD → Option PD} (hF : Fr F ρ) (h : EvA fi F L) (hk : x1 L K = some r) (h2 : ∀ ds ρ', Fr F ρ' → K ds = some r → W r Q (forL st b ds ρ')) : W r Q (cFor fi st b ρ) := by
  obtain ⟨ds, e1, e2⟩ := x1_some hk
  obtain ⟨ρ1, a1, R1⟩ := h ρ hF ds e1
  rw [for_eq a1 rfl]
  exact h2 ds _ R1 e2
theorem w_forc {b : Es} {ds : List PD} (hF : Fr F ρ) (hi : F[i]? = some k) (h : ∀ ρ', Fr (F.set i (.v d)) ρ' → W r ⟨fun ρ2 => W r Q (forL (stNm i) b ds ρ2), Q.nx, fun ρ2 => W r Q (forL (stNm i) b ds ρ2)⟩ (b ρ')) : W r Q (forL (stNm i) b (d :: ds) ρ) :=
  Gd.w_forc (st_1 (hF.wr hi)) (h _ (hF.set sok_v i))
theorem w_forc2 {v w : Nat} {k2 : Sk} {b : Es} {ds : List PD} {K : PD → PD → Option PD} (hF : Fr F ρ) (hv : F[v]? = some k) (hw : ∀ a, (F.set v (.v a))[w]? = some k2) (hk : p2 d K = some r) (h : ∀ x y ρ', Fr ((F.set v (.v x)).set w (.v y)) ρ' → K x y = some r → W r ⟨fun ρ2 => W r Q (forL (Dv.stTup [v, w]) b ds ρ2), Q.nx, fun ρ2 => W r Q (forL (Dv.stTup [v, w]) b ds ρ2)⟩ (b ρ')) : W r Q (forL (Dv.stTup [v, w]) b (d :: ds) ρ) := by
  unfold p2 at hk
  split at hk
  · rename_i x y
    have R2 := hF.set (sok_v (d := x)) v
    have e : Dv.stTup [v, w] (.tuple [x, y]) ρ = some ((ρ.set v (.val x)).set w (.val y)) := by
      show (if wr ρ v = true then (if wr (ρ.set v (.val x)) w = true then some ((ρ.set v (.val x)).set w (.val y)) else none) else none) = _
      rw [if_pos (hF.wr hv), if_pos (R2.wr (hw x))]
    exact Gd.w_forc e (h x y _ (R2.set sok_v w) hk)
  · cases hk
theorem w_whl {g : Et} {b : Es} {n : Nat} {K1 K2 : Option PD} (hF : Fr F ρ) (h : EvT g F T) (hk : xIf T K1 K2 = some r) (h1 : ∀ ρ', Fr F ρ' → K1 = some r → W r ⟨fun ρ2 => W r Q (whl g b n ρ2), Q.nx, fun ρ2 => W r Q (whl g b n ρ2)⟩ (b ρ')) (h2 : ∀ ρ', Fr F ρ' → K2 = some r → Q.nx ρ') : W r Q (whl g b (n + 1) ρ) := by
  obtain ⟨k, e1, e2⟩ := x1_some hk
  obtain ⟨ρ1, a1, R1⟩ := h ρ hF k e1
  unfold whl
  rw [a1, Option.bind_some]
  cases k with
  | false => exact h2 _ R1 e2
  | true =>
    rw [if_pos rfl]
    have h := h1 _ R1 e2
    cases e : b ρ1 with
    | none => rw [e] at h; exact h
    | some w => rw [e] at h; cases w <;> exact h
theorem fr_v {d : PD} {ks : Fs} {ss : Rho} (h : Fr ks ss) : Fr (.v d :: ks) (.val d :: ss) := .cons sok_v h
theorem fr_n {ks : Fs} {ss : Rho} (h : Fr ks ss) : Fr (.j :: ks) (.no :: ss) := .cons sok_no h
theorem fr_o {l : List PD} {ks : Fs} {ss : Rho} (h : Fr ks ss) : Fr (.o l :: ks) (.own false l :: ss) := .cons (show Sok (.o l) (.own false l) from rfl) h
end
end
end
end Ha
set_option Elab.async false
set_option linter.all false
set_option maxRecDepth 100000
set_option maxHeartbeats 4000000
namespace Ha
open PySem PySem.Spec PyProof.Rows L2 Gq Dv Lw Fz
open Gd hiding EvA EvF EvN EvO EvP EvR EvT EvV all_dir any_dir cmp_dir col_dir ea_cons ea_nil ea_star ei_r1 ei_r2 ei_seq eo_no eo_some er_f er_n er_nil er_v ev_allG ev_and ev_anyG ev_app ev_bin ev_binN ev_call ev_chain ev_cnt ev_comp ev_comp2 ev_cst ev_frz ev_gand ev_gnot ev_gor ev_gyes ev_isTL ev_isi ev_ite ev_listR1 ev_loc ev_lst ev_not ev_or ev_own ev_sl ev_slN ev_sumG ev_tst ev_tup ev_tupG ev_tupR1 ev_un ev_unN pt_n pt_v trn_dir w_app w_asgF w_asgN w_asgV w_aug w_exp w_for w_forc w_if w_par w_ret w_unp2 w_whl
noncomputable section
def xcmp2 (T : PD → Option Bool) (I : PD → Option (List PD)) (ds : List PD) : Option (List PD) := List.rec (motive := fun _ => Option (List PD)) (some []) (fun d _ ih => match T d with
  | some true => match I d with
    | some ys => match ih with
      | some zs => some (appR ys zs)
      | none => none
    | none => none
  | some false => ih
  | none => none) ds
def xComp2 (L : Option (List PD)) (T : PD → Option Bool) (L1 : PD → Option (List PD)) (T1 : PD → PD → Option Bool) (V : PD → PD → Option PD) : Option (List PD) := x1 L fun l => xS (xcmp2 T (fun d => x1 (L1 d) fun es => xcmp (T1 d) (V d) es) l)
section
variable {g g1 : Et} {F : Fs} {L : Option (List PD)} {k : Sk}
theorem cmp2_dir {vs : List Nat} {st : PD → Rho → Option Rho} {inner : Rho → Option (List PD × Rho)} {T : PD → Option Bool} {I : PD → Option (List PD)} {Fj : Fs} {Fd : PD → Fs} (hw : ∀ ρ, Fr Fj ρ → Fr Fj (wR ρ vs)) (hst : ∀ d ρ, Fr Fj ρ → ∃ ρ', st d ρ = some ρ' ∧ Fr (Fd d) ρ')
    (hb : ∀ d ρ, Fr (Fd d) ρ → Fr Fj ρ) (hg : ∀ d, EvT g (Fd d) (T d)) (he : ∀ d ρ, Fr (Fd d) ρ → ∀ ys, I d = some ys → ∃ ρ', inner ρ = some (ys, ρ') ∧ Fr (Fd d) ρ') : ∀ (ds ys : List PD) (ρ : Rho), Fr Fj ρ → xcmp2 T I ds = some ys → ∃ ρ', cmp2L vs st g inner ds ρ = some (ys, ρ') ∧ Fr Fj ρ'
  | [], ys, ρ, R, e => by
    cases e
    exact ⟨_, rfl, hw ρ R⟩
  | d :: ds, ys, ρ, R, e => by
    have e' : (match T d with
      | some true => match I d with
        | some ys => match xcmp2 T I ds with
          | some zs => some (appR ys zs)
          | none => none
        | none => none
      | some false => xcmp2 T I ds
      | none => none) = some ys := e
    obtain ⟨ρ1, a1, R1⟩ := hst d (wR ρ vs) (hw ρ R)
    unfold cmp2L
    rw [a1, Option.bind_some]
    split at e'
    · rename_i hT
      obtain ⟨ρ2, a2, R2⟩ := hg d ρ1 R1 true hT
      split at e'
      · rename_i y hV
        obtain ⟨ρ3, a3, R3⟩ := he d ρ2 R2 y hV
        split at e'
        · rename_i zs hz
          cases e'
          obtain ⟨ρ', e1, e2⟩ := cmp2_dir hw hst hb hg he ds zs ρ3 (hb d _ R3) hz
          refine ⟨ρ', ?_, e2⟩
          rw [a2, Option.bind_some, if_pos rfl, a3, Option.bind_some]
          simp only [e1, Option.map_some, appR_eq]
        · cases e'
      · cases e'
    · rename_i hT
      obtain ⟨ρ2, a2, R2⟩ := hg d ρ1 R1 false hT
      obtain ⟨ρ', e1, e2⟩ := cmp2_dir hw hst hb hg he ds ys ρ2 (hb d _ R2) e'
      refine ⟨ρ', ?_, e2⟩
      rw [a2, Option.bind_some]
      simp only [Bool.false_eq_true, if_false, e1]
    · cases e'
theorem ev_compc {v w : Nat} {k2 : Sk} {fi fi1 : Ea} {fe : Ev} {T : PD → Option Bool} {L1 : PD → Option (List PD)} {T1 : PD → PD → Option Bool} {V : PD → PD → Option PD} (hv : F[v]? = some k) (hw : F[w]? = some k2) (hne : v ≠ w) (hi : EvA fi F L)
    (hg : ∀ d, EvT g (((F.set v .j).set w .j).set v (.v d)) (T d)) (hi1 : ∀ d, EvA fi1 (((F.set v .j).set w .j).set v (.v d)) (L1 d))
    (hg1 : ∀ d e, EvT g1 ((((F.set v .j).set w .j).set v (.v d)).set w (.v e)) (T1 d e)) (he : ∀ d e, EvF fe ((((F.set v .j).set w .j).set v (.v d)).set w (.v e)) (V d e)) :
    EvN (fComp2 [v, w] [w] fi (stNm v) g fi1 (stNm w) g1 fe) F (xComp2 L T L1 T1 V) := fun ρ R l e => by
  obtain ⟨m, e1, e2⟩ := x1_some e
  obtain ⟨e3, hl⟩ := xS_some e2
  obtain ⟨ρ1, a1, R1⟩ := hi ρ R m e1
  have l1 : v < F.length := (List.getElem?_eq_some_iff.mp hv).1
  have l2 : w < F.length := (List.getElem?_eq_some_iff.mp hw).1
  have c1 : ∀ (a b : Sk) (G : Fs), (G.set v a).set w b = (G.set w b).set v a := fun a b G => List.set_comm _ _ hne
  have jv : ((F.set v .j).set w .j)[v]? = some Sk.j := by rw [c1, List.getElem?_set_self (by rw [List.length_set]; exact l1)]
  have jw : ∀ d, (((F.set v .j).set w .j).set v (.v d))[w]? = some Sk.j := fun d => by rw [List.getElem?_set_ne hne, List.getElem?_set_self (by rw [List.length_set]; exact l2)]
  obtain ⟨ρ2, a2, R2⟩ := cmp2_dir (vs := [v, w]) (st := stNm v) (inner := inn [w] fi1 (stNm w) g1 fe) (T := T) (I := fun d => x1 (L1 d) fun es => xcmp (T1 d) (V d) es) (Fj := (F.set v .j).set w .j) (Fd := fun d => ((F.set v .j).set w .j).set v (.v d))
    (fun ρ R => by
      show Fr _ ((ρ.set w .no).set v .no)
      have h1 := (R.set sok_no w).set sok_no v
      rw [set_set, ← c1 .j .j (F.set v .j), set_set] at h1
      exact h1)
    (fun d ρ R => ⟨ρ.set v (.val d), st_1 (R.wr jv), R.set sok_v v⟩)
    (fun d ρ R => by
      have h1 := R.weak (les_set (le_j (a := .v d)) v (les_r ((F.set v .j).set w .j)))
      rwa [set_idF jv] at h1)
    hg
    (fun d ρ R ys h => by
      obtain ⟨es, h1, h2⟩ := x1_some h
      obtain ⟨ρ3, a3, R3⟩ := hi1 d ρ R es h1
      obtain ⟨ρ4, a4, R4⟩ := cmp_dir (vs := [w]) (st := stNm w) (g := g1) (fe := fe) (T := T1 d) (V := V d) (Fj := ((F.set v .j).set w .j).set v (.v d)) (Fd := fun e => (((F.set v .j).set w .j).set v (.v d)).set w (.v e))
        (fun ρ R => by have := R.set sok_no w; rw [set_idF (jw d)] at this; exact this)
        (fun e ρ R _ => ⟨ρ.set w (.val e), st_1 (R.wr (jw d)), R.set sok_v w⟩)
        (fun e ρ R => by
          have h1 := R.weak (les_set (le_j (a := .v e)) w (les_r (((F.set v .j).set w .j).set v (.v d))))
          rwa [set_idF (jw d)] at h1) (hg1 d) (he d) es ys ρ3 R3 h2
      exact ⟨ρ4, by unfold inn; rw [a3, Option.bind_some]; exact a4, R4⟩) m l ρ1 (R1.weak (les_t (les_j v F hv) (les_j w _ (k := k2) (by rw [List.getElem?_set_ne hne]; exact hw)))) e3
  refine ⟨unw ρ1 ρ2 [v, w], ?_, ?_⟩
  · unfold fComp2
    rw [a1, Option.bind_some, a2, Option.bind_some]
    exact if_pos hl
  · obtain ⟨s, h1, h2⟩ := R1.get hv
    obtain ⟨s', h3, h4⟩ := R1.get hw
    show Fr F ((ρ2.set w ((ρ1[w]?).getD .no)).set v ((ρ1[v]?).getD .no))
    rw [h1, h3]
    have h5 := (R2.set h4 w).set h2 v
    rw [set_set, ← c1 k k2 (F.set v .j), set_set, c1, set_idF hw, set_idF hv] at h5
    exact h5
end
end
end Ha
set_option Elab.async false
set_option linter.all false
set_option maxRecDepth 100000
set_option maxHeartbeats 4000000
namespace Lw
open PySem PySem.Spec PyProof.Rows L2 Gq Dv
end Lw
set_option Elab.async false
set_option linter.all false
set_option maxRecDepth 100000
set_option maxHeartbeats 4000000
namespace Ha
open PySem PySem.Spec PyProof.Rows L2 Gq Dv Lw Fz Ck Pk
open Gd hiding EvA EvF EvN EvO EvP EvR EvT EvV all_dir any_dir cmp_dir col_dir ea_cons ea_nil ea_star ei_r1 ei_r2 ei_seq eo_no eo_some er_f er_n er_nil er_v ev_allG ev_and ev_anyG ev_app ev_bin ev_binN ev_call ev_chain ev_cnt ev_comp ev_comp2 ev_cst ev_frz ev_gand ev_gnot ev_gor ev_gyes ev_isTL ev_isi ev_ite ev_listR1 ev_loc ev_lst ev_not ev_or ev_own ev_sl ev_slN ev_sumG ev_tst ev_tup ev_tupG ev_tupR1 ev_un ev_unN pt_n pt_v trn_dir w_app w_asgF w_asgN w_asgV w_aug w_exp w_for w_forc w_if w_par w_ret w_unp2 w_whl
noncomputable section
def z_hInX (neg : Bool) (d e : PD) : Option Rs := match z_hIn neg d e with
  | some r => some r
  | none => hInT neg d e
theorem hInX_z : hInX = z_hInX := by funext n d e; unfold hInX z_hInX; rw [hIn_z] <;> rfl
def xListR2 (E1 E2 : Option PD) : Option (List PD) := x2 E1 E2 fun a b => match a, b with | .int i, .int j => oN (z_fRg i j) | _, _ => none
def xListI (L : Option (List PD)) : Option (List PD) := x1 L fun l => match Nat.ble l.length 16777216 with | true => some l | false => none
def rowsT (l : List PD) (k : Nat) : Option (List PD) := x1 (rowsC l.length k) fun L => some (L.map fun ix => .tuple (pickD l ix))
def cmbL (l : List PD) (r : Int) : Option (List PD) := match r with
  | .ofNat k => match Nat.ble k 1000 with | true => rowsT l k | false => none
  | .negSucc _ => none
def xCmbR (E1 E2 : Option PD) : Option (List PD) := x2 E1 E2 fun a b => match a, b with
  | .int j, .int r => match z_fRg 0 j with | some (.new l) => cmbL l r | _ => none
  | _, _ => none
def xMinG (L : Option (List PD)) (T : PD → Option Bool) (V : PD → Option PD) : Option PD := x1 (x1 L fun l => xcmp T V l) fun l => x1 (miD none l) fun j => some (.int j)
section
variable {f f1 f2 : Ev} {fs fi : Ea} {F : Fs} {E E1 E2 : Option PD} {L : Option (List PD)} {T : PD → Option Bool} {V : PD → Option PD} {g : Et} {fe : Ev} {st : PD → Rho → Option Rho} {m : Nat}
theorem ev_listR2 (h1 : EvV f1 F E1) (h2 : EvV f2 F E2) : EvN (fListR2 f1 f2) F (xListR2 E1 E2) := fun ρ R l e => by
  obtain ⟨a, b, e1, e2, e3⟩ := x2_some e
  obtain ⟨ρ1, p1, R1⟩ := h1 ρ R a e1
  obtain ⟨ρ2, p2, R2⟩ := h2 ρ1 R1 b e2
  refine ⟨ρ2, ?_, R2⟩
  unfold fListR2
  rw [p1, Option.bind_some]
  dsimp only at e3 ⊢
  split at e3
  · dsimp only
    rw [p2, Option.bind_some]
    simp only [fRg_z, oN_some e3, Option.map_some]
  · cases e3
theorem ev_listI (h : EvA fi F L) : EvN (fListI fi) F (xListI L) := fun ρ R l e => by
  obtain ⟨a, e1, e2⟩ := x1_some e
  obtain ⟨ρ1, p1, R1⟩ := h ρ R a e1
  refine ⟨ρ1, ?_, R1⟩
  unfold fListI
  rw [p1, Option.bind_some]
  split at e2
  · rename_i hb
    cases e2
    rw [if_pos (Nat.le_of_ble_eq_true hb)]
  · cases e2
theorem fRg_new {j : Int} {l : List PD} (h : z_fRg 0 j = some (.new l)) : (-(2 ^ 62) ≤ j ∧ j < 2 ^ 62 ∧ (j - 0).toNat ≤ 2 ^ 24) ∧ l = rngL 0 (j - 0).toNat ∧ l.length = (j - 0).toNat := by
  rw [← fRg_z] at h
  unfold fRg at h
  obtain ⟨⟨_, _, b1, b2, b3⟩, e⟩ := ite_some h
  cases e
  exact ⟨⟨b1, b2, b3⟩, rfl, by simp [rngL]⟩
theorem cmbL_some {l ds : List PD} {r : Int} (h : cmbL l r = some ds) : 0 ≤ r ∧ r ≤ 1048576 ∧ ∃ L, rowsC l.length r.toNat = some L ∧ ds = L.map fun ix => .tuple (pickD l ix) := by
  unfold cmbL at h
  split at h
  · rename_i k
    split at h
    · rename_i hb
      have := Nat.le_of_ble_eq_true hb
      obtain ⟨L, e1, e2⟩ := x1_some h
      cases e2
      exact ⟨Int.natCast_nonneg k, by show ((k : Nat) : Int) ≤ 1048576; omega, L, e1, rfl⟩
    · cases h
  · cases h
theorem ei_cmbR (h1 : EvV f1 F E1) (h2 : EvV f2 F E2) : EvA (iCmbR f1 f2) F (xCmbR E1 E2) := fun ρ R ds e => by
  obtain ⟨a, b, e1, e2, e3⟩ := x2_some e
  obtain ⟨ρ1, p1, R1⟩ := h1 ρ R a e1
  obtain ⟨ρ2, p2, R2⟩ := h2 ρ1 R1 b e2
  refine ⟨ρ2, ?_, R2⟩
  unfold iCmbR
  rw [p1, Option.bind_some]
  dsimp only at e3 ⊢
  split at e3
  · dsimp only
    rw [p2, Option.bind_some]
    split at e3
    · rename_i hr
      obtain ⟨hg, rfl, hl⟩ := fRg_new hr
      obtain ⟨h0, h1, L, hL, rfl⟩ := cmbL_some e3
      rw [hl] at hL
      dsimp only
      rw [if_pos ⟨hg, h0, h1⟩, hL]
      rfl
    · cases e3
  · cases e3
theorem ev_minG (ht : TrD (trn m st g fe) F T V) (hi : EvA fi F L) : EvV (fMinG m fi st g fe) F (xMinG L T V) := fun ρ R d e => by
  obtain ⟨ys, e1, e2⟩ := x1_some e
  obtain ⟨l, e3, e4⟩ := x1_some e1
  obtain ⟨j, e5, e6⟩ := x1_some e2
  cases e6
  obtain ⟨ρ1, a1, R1⟩ := hi ρ R l e3
  obtain ⟨ρ2, a2, R2⟩ := col_dir ht l ys ρ1 R1 e4
  exact ⟨ρ2, by unfold fMinG; rw [a1, Option.bind_some, a2, Option.bind_some]; simp only [e5, Option.map_some], R2⟩
theorem ev_idxM (h1 : EvP f1 F E1) (h2 : EvP f2 F E2) : EvV (fIdxM f1 f2) F (x2 E1 E2 hIdxM) := fun ρ R d e => by
  obtain ⟨a, b, e1, e2, e3⟩ := x2_some e
  obtain ⟨r1, ρ1, p1, R1, q1⟩ := h1 ρ R a e1
  obtain ⟨r2, ρ2, p2, R2, q2⟩ := h2 ρ1 R1 b e2
  refine ⟨ρ2, ?_, R2⟩
  unfold fIdxM
  rw [p1, Option.bind_some, p2, Option.bind_some, q1 _ R1, Option.bind_some]
  simp only [q1 _ R2, q2 _ R2, Option.bind_some, if_true, e3, Option.map_some]
end
end
end Ha
set_option Elab.async false
set_option linter.all false
set_option maxRecDepth 100000
set_option maxHeartbeats 4000000
namespace Ha
open PySem PySem.Spec PyProof.Rows L2 Gq Dv Lw Fz
open Gd hiding EvA EvF EvN EvO EvP EvR EvT EvV all_dir any_dir cmp_dir col_dir ea_cons ea_nil ea_star ei_r1 ei_r2 ei_seq eo_no eo_some er_f er_n er_nil er_v ev_allG ev_and ev_anyG ev_app ev_bin ev_binN ev_call ev_chain ev_cnt ev_comp ev_comp2 ev_cst ev_frz ev_gand ev_gnot ev_gor ev_gyes ev_isTL ev_isi ev_ite ev_listR1 ev_loc ev_lst ev_not ev_or ev_own ev_sl ev_slN ev_sumG ev_tst ev_tup ev_tupG ev_tupR1 ev_un ev_unN pt_n pt_v trn_dir w_app w_asgF w_asgN w_asgV w_aug w_exp w_for w_forc w_if w_par w_ret w_unp2 w_whl
noncomputable section
@[irreducible] def V (r : PD) (Q : Qs) (o : Option Fw) : Prop := W r Q o
theorem V_eq : @V = @W := by delta V; rfl
section
variable {r : PD} {Q : Qs} {p1 q2 : Es} {ρ : Rho}
theorem v_seq  : ∀ (h : V r ⟨fun ρ1 => V r Q (q2 ρ1), Q.bk, Q.ct⟩ (p1 ρ)), V r Q (cSeq p1 q2 ρ) := by
  rw [V_eq]
  intro h
  exact Gd.w_seq h
theorem v_nil  : ∀ (h : Q.nx ρ), V r Q (cNil ρ) := by
  rw [V_eq]
  intro h
  exact Gd.w_nil h
variable {np nN : Nat} {body : Es}
theorem v_run0_dir {np nN : Nat} {body : Es} {ds : List PD} : ∀ (hn : ds.length = np) (h : V r (Q0 r) (body (ds.map Slt.val ++ noS (nN - np)))), run0 np nN body ds = some r := by
  rw [V_eq]
  intro hn h
  exact Gd.run0_dir hn h
theorem v_true {o : Option Fw} : ∀ (h : V (.bool true) (Q0 (.bool true)) o), ∃ ρ', o = some (.rt (.bool true) ρ') := by
  rw [V_eq]
  intro h
  exact Gd.w_true h
end
section
variable {f f1 f2 f3 : Ev} {fs : Ea} {g g1 g2 : Et} {F F1 F2 : Fs} {E E1 E2 E3 : Option PD} {L : Option (List PD)} {T T1 T2 : Option Bool} {d : PD} {i : Nat} {l : List PD} {ρ : Rho} {k : Sk}
variable {r : PD} {Q : Qs} {p1 q2 : Es}
theorem v_asgV {K : PD → Option PD} : ∀ (hF : Fr F ρ) (h : EvV f F E) (hi : F[i]? = some k) (hk : x1 E K = some r) (h2 : ∀ d ρ', Fr (F.set i (.v d)) ρ' → K d = some r → Q.nx ρ'), V r Q (cAsg i f ρ) := by
  rw [V_eq]
  intro hF h hi hk h2
  exact Ha.w_asgV hF h hi hk h2
theorem v_asgN {K : List PD → Option PD} : ∀ (hF : Fr F ρ) (h : EvN f F L) (hi : F[i]? = some k) (hk : x1 L K = some r) (h2 : ∀ l ρ', Fr (F.set i (.o l)) ρ' → K l = some r → Q.nx ρ'), V r Q (cAsg i f ρ) := by
  rw [V_eq]
  intro hF h hi hk h2
  exact Ha.w_asgN hF h hi hk h2
theorem v_asgE {j : Nat} {K : Option PD} : ∀ (hF : Fr F ρ) (hj : F[j]? = some (.e l)) (hi : F[i]? = some k) (hk : K = some r) (h2 : ∀ ρ', Fr (F.set i (.e l)) ρ' → K = some r → Q.nx ρ'), V r Q (cAsg i (fVal (fLoc j)) ρ) := by
  rw [V_eq]
  intro hF hj hi hk h2
  exact Ha.w_asgE hF hj hi hk h2
theorem v_if {K1 K2 : Option PD} : ∀ (hF : Fr F ρ) (h : EvT g F T) (hk : xIf T K1 K2 = some r) (h1 : ∀ ρ', Fr F ρ' → K1 = some r → V r Q (p1 ρ')) (h2 : ∀ ρ', Fr F ρ' → K2 = some r → V r Q (q2 ρ')), V r Q (cIf g p1 q2 ρ) := by
  rw [V_eq]
  intro hF h hk h1 h2
  exact Ha.w_if hF h hk h1 h2
theorem v_ret  : ∀ (hF : Fr F ρ) (h : EvF f F E) (hk : E = some r), V r Q (cRet f ρ) := by
  rw [V_eq]
  intro hF h hk
  exact Ha.w_ret hF h hk
theorem v_exp {K : Option PD} : ∀ (hF : Fr F ρ) (h : EvV f F E) (hk : (x1 E fun _ => K) = some r) (h2 : ∀ ρ', Fr F ρ' → K = some r → Q.nx ρ'), V r Q (cExp f ρ) := by
  rw [V_eq]
  intro hF h hk h2
  exact Ha.w_exp hF h hk h2
theorem v_app {K : PD → Option PD} : ∀ (hF : Fr F ρ) (hi : F[i]? = some (.o l)) (h : EvF f F E) (hk : (x1 E fun d => xapp l (K d)) = some r) (h2 : ∀ d ρ', Fr (F.set i (.o (appR l [d]))) ρ' → K d = some r → Q.nx ρ'), V r Q (cApp i f ρ) := by
  rw [V_eq]
  intro hF hi h hk h2
  exact Ha.w_app hF hi h hk h2
theorem v_unp2 {v w : Nat} {k2 : Sk} {K : PD → PD → Option PD} : ∀ (hF : Fr F ρ) (h : EvV f F E) (hv : F[v]? = some k) (hw : ∀ a, (F.set v (.v a))[w]? = some k2) (hk : (x1 E fun d => p2 d K) = some r) (hn : ∀ a b ρ', Fr ((F.set v (.v a)).set w (.v b)) ρ' → K a b = some r → Q.nx ρ'), V r Q (cUnp [v, w] f ρ) := by
  rw [V_eq]
  intro hF h hv hw hk hn
  exact Ha.w_unp2 hF h hv hw hk hn
theorem v_par {is : List Nat} {fs : Er} {R : Option (List Rs)} {K : List Rs → Option PD} : ∀ (hF : Fr F ρ) (h : EvR fs F R) (hk : x1 R K = some r) (h2 : ∀ rs ρ', Fr F ρ' → K rs = some r → ∃ ρ2, putsR is rs ρ' = some ρ2 ∧ Q.nx ρ2), V r Q (cParR is fs ρ) := by
  rw [V_eq]
  intro hF h hk h2
  exact Ha.w_par hF h hk h2
theorem v_for {fi : Ea} {st : PD → Rho → Option Rho} {b : Es} {K : List PD → Option PD} : ∀ (hF : Fr F ρ) (h : EvA fi F L) (hk : x1 L K = some r) (h2 : ∀ ds ρ', Fr F ρ' → K ds = some r → V r Q (forL st b ds ρ')), V r Q (cFor fi st b ρ) := by
  rw [V_eq]
  intro hF h hk h2
  exact Ha.w_for hF h hk h2
theorem v_forc {b : Es} {ds : List PD} : ∀ (hF : Fr F ρ) (hi : F[i]? = some k) (h : ∀ ρ', Fr (F.set i (.v d)) ρ' → V r ⟨fun ρ2 => V r Q (forL (stNm i) b ds ρ2), Q.nx, fun ρ2 => V r Q (forL (stNm i) b ds ρ2)⟩ (b ρ')), V r Q (forL (stNm i) b (d :: ds) ρ) := by
  rw [V_eq]
  intro hF hi h
  exact Ha.w_forc hF hi h
theorem v_forc2 {v w : Nat} {k2 : Sk} {b : Es} {ds : List PD} {K : PD → PD → Option PD} : ∀ (hF : Fr F ρ) (hv : F[v]? = some k) (hw : ∀ a, (F.set v (.v a))[w]? = some k2) (hk : p2 d K = some r) (h : ∀ x y ρ', Fr ((F.set v (.v x)).set w (.v y)) ρ' → K x y = some r → V r ⟨fun ρ2 => V r Q (forL (Dv.stTup [v, w]) b ds ρ2), Q.nx, fun ρ2 => V r Q (forL (Dv.stTup [v, w]) b ds ρ2)⟩ (b ρ')), V r Q (forL (Dv.stTup [v, w]) b (d :: ds) ρ) := by
  rw [V_eq]
  intro hF hv hw hk h
  exact Ha.w_forc2 hF hv hw hk h
theorem v_whl {g : Et} {b : Es} {n : Nat} {K1 K2 : Option PD} : ∀ (hF : Fr F ρ) (h : EvT g F T) (hk : xIf T K1 K2 = some r) (h1 : ∀ ρ', Fr F ρ' → K1 = some r → V r ⟨fun ρ2 => V r Q (whl g b n ρ2), Q.nx, fun ρ2 => V r Q (whl g b n ρ2)⟩ (b ρ')) (h2 : ∀ ρ', Fr F ρ' → K2 = some r → Q.nx ρ'), V r Q (whl g b (n + 1) ρ) := by
  rw [V_eq]
  intro hF h hk h1 h2
  exact Ha.w_whl hF h hk h1 h2
end
theorem v_forn {r : PD} {Q : Qs} {st : PD → Rho → Option Rho} {b : Es} {ρ : Rho} (h : Q.nx ρ) : V r Q (forL st b [] ρ) := by
  rw [V_eq]
  exact h
structure RW (g : Option PD) (s : Option Fw) : Prop where
  p : ∀ r, g = some r → V r (Q0 r) s
theorem RW.ok {s : Option Fw} {g : Option PD} (h : RW g s) (hb : isB g = true) : ∃ ρ', s = some (.rt (.bool true) ρ') := v_true (h.p _ (isB_ok hb))
end
end Ha
set_option Elab.async false
set_option linter.all false
set_option maxRecDepth 100000
set_option maxHeartbeats 4000000
namespace Ha
open PySem PySem.Spec PyProof.Rows L2 Gq Dv Lw Fz
open Gd hiding EvA EvF EvN EvO EvP EvR EvT EvV all_dir any_dir cmp_dir col_dir ea_cons ea_nil ea_star ei_r1 ei_r2 ei_seq eo_no eo_some er_f er_n er_nil er_v ev_allG ev_and ev_anyG ev_app ev_bin ev_binN ev_call ev_chain ev_cnt ev_comp ev_comp2 ev_cst ev_frz ev_gand ev_gnot ev_gor ev_gyes ev_isTL ev_isi ev_ite ev_listR1 ev_loc ev_lst ev_not ev_or ev_own ev_sl ev_slN ev_sumG ev_tst ev_tup ev_tupG ev_tupR1 ev_un ev_unN pt_n pt_v trn_dir w_app w_asgF w_asgN w_asgV w_aug w_exp w_for w_forc w_if w_par w_ret w_unp2 w_whl
end Ha
set_option Elab.async false
set_option linter.all false
set_option maxRecDepth 100000
set_option maxHeartbeats 4000000
namespace Dv
open PySem PySem.Spec PyProof.Rows L2 Gq
end Dv
set_option Elab.async false
set_option linter.all false
set_option maxRecDepth 100000
set_option maxHeartbeats 4000000
namespace Dv
open PySem PySem.Spec PyProof.Rows L2 Gq
theorem fm_mem (val : Nat → Int) (i : Nat) (k : Int) : k ∈ firstMet val i ↔ k ∈ (List.range i).map val := by
  have h := firstMet_any val i k
  rw [Bool.eq_iff_iff] at h
  simpa using h
theorem fm_nodup (val : Nat → Int) : ∀ i, (firstMet val i).Nodup
  | 0 => by rw [firstMet_zero]; exact .nil
  | i + 1 => by
    rw [firstMet_succ]
    have ih := fm_nodup val i
    generalize firstMet val i = l at ih
    unfold step_dedup
    split
    · exact ih
    · rename_i hn
      rw [List.nodup_append]
      refine ⟨ih, by simp, fun a ha b hb => ?_⟩
      simp at hb
      intro e
      subst e
      subst hb
      exact hn (by simpa using ha)
theorem fm_len (ns : List Int) : (firstMet (fun i => ns.getD i 0) ns.length).length = (ddI ns).length := by
  refine ((List.perm_ext_iff_of_nodup (fm_nodup _ _) (ddI_nodup ns)).mpr fun k => ?_).length_eq
  rw [fm_mem, ddI_mem]
  have : (List.range ns.length).map (fun i => ns.getD i 0) = ns := by
    refine List.ext_getElem? fun i => ?_
    by_cases h : i < ns.length
    · simp [h]
    · simp [h]
  rw [this]
def hLenSetX : PD → Option Rs
  | .list l => (intsOf l).bind fun ns => if ns.length ≤ 4000 then some (.val (.int (ddI ns).length)) else none
  | d => hLenSet d
def tLenSetX (K : PySem.W.Frag) (ta : TE) : TE := fun σ H Q => ta σ H fun x H1 => ∃ (l : Addr) (ns : List Int), x = .ref l ∧ (SqL K H1 l (ns.map V.int) ∨ SqT K H1 l (ns.map V.int)) ∧ ns.length ≤ 4000 ∧ Q (.int (ddI ns).length) H1
theorem pe_lenSetX {X : Cx} {a : Expr} {ta : TE} {p p2 q pos : Pos} (gl : Gl X "len") (ml : X.mg "len" = none) (gs : Gl X "set") (ms : X.mg "set" = none) (ha : PE X a ta) (hc : X.calm = true)
    (na : starEach [a] X.env = (false, eval a X.env) :: starEach [] X.env := by rfl) : PE X (.Call (.Name "len" p) [.Call (.Name "set" p2) [a] [] q] [] pos) (tLenSetX X.K ta) := by
  refine ⟨fun pins s σ H Q I h => Call_ (ld_blt I gl ml boot_len (callWith_builtin1 (args_cons (Call_ (ld_blt I gs ms PyProof.Rows.boot_set ?_)) rfl) rfl rfl))⟩
  refine callWith_type1 (args_cons (thn (ha.run pins s σ H _ I h) fun v s1 ⟨x, H1, I1, r1, q1⟩ => args_nil ?_) na) na rfl
  obtain ⟨l, ns, rfl, hq, hl, q1⟩ := q1
  cases r1
  rcases hq with hq | hq
  · obtain ⟨its, r, pl, hz⟩ := I1.list hq
    have hlen : its.toArray.size = ns.length := by rw [List.size_toArray, ← r.length, List.length_map]
    refine call_set_list (I1.ok.hd hc) pl.isList (by simpa using ints_of_vals r) (by rw [hlen]; unfold scanBound; omega) fun h' tk hS hk => args_nil ?_
    rw [hlen] at hS
    obtain ⟨o, es, ep, t, ho, hex, hd, _, _, _, hf, hn⟩ := hS
    rw [fm_len] at hn
    have I2 : Inv X pins σ H1 { s1 with heap := h', toks := tk } := I1.kept fun b o e => hk b o (Heap.lt_size e) e
    have hd4 : (ddI ns).length ≤ ns.length := by
      rw [← fm_len]; exact firstMet_length_le _ _
    exact call_len_set ho hex hd hf (by rw [hn]; omega) ⟨.int (ddI ns).length, H1, I2.tok _, ⟨_, by rw [hn]⟩, q1⟩
  · obtain ⟨its, r, pl, bz⟩ := I1.tuple hq
    refine call_set_tupI ns (I1.ok.hd hc) pl (by simpa using ints_of_vals r) (by unfold scanBound; omega) fun h' tk c R hcn k => args_nil ?_
    obtain ⟨o, es, ep, t, ho, hex, hd, _, nd, hm, hb, hf, hn, _⟩ := R
    have hlen : es.size = (ddI ns).length := by
      have pp : (es.toList.map keyOf).Perm (ddI ns) := (List.perm_ext_iff_of_nodup nd (ddI_nodup ns)).mpr fun k => by
        rw [← hm k, decide_eq_true_iff, ddI_mem]
      have := pp.length_eq
      rw [List.length_map, Array.length_toList] at this
      exact this
    have I2 : Inv X pins σ H1 { s1 with heap := h', toks := tk } := I1.kept k
    exact call_len_set ho hex hd hf (by unfold scanBound at hb; omega) ⟨.int (ddI ns).length, H1, I2.tok _, ⟨_, by rw [hlen]⟩, q1⟩
section
variable {X : Cx} {T : List Addr} {e a b c : Expr} {es : List Expr} {f f1 f2 f3 : Ev} {pos p p2 q apos cpos : Pos}
theorem s_lenSetX (gl : Gl X "len") (ml : X.mg "len" = none) (gs : Gl X "set") (ms : X.mg "set" = none) (hc : X.calm = true) (h : SE X T a f)
    (na : starEach [a] X.env = (false, eval a X.env) :: starEach [] X.env := by rfl) : SE X T (.Call (.Name "len" p) [.Call (.Name "set" p2) [a] [] q] [] pos) (fUn hLenSetX f) := by
  refine PE.imp (pe_lenSetX gl ml gs ms h hc na) fun σ H Q ⟨ρ, rs, ρ', R, e, q⟩ => ?_
  obtain ⟨⟨r1, ρ1⟩, e1, e⟩ := obind e
  obtain ⟨d, k, e⟩ := obind e
  obtain ⟨r', hr, e⟩ := omap e
  cases e
  refine ⟨ρ, r1, _, R, e1, fun v H1 P => ?_⟩
  cases d <;> simp only [hLenSetX, hLenSet] at hr <;> first | (cases hr; done) | skip
  case list l =>
    obtain ⟨ns, h1, h2⟩ := obind hr
    obtain ⟨hl, rfl⟩ := ite_some h2
    obtain ⟨a, xs, rfl, hx, t⟩ := (P.tw k).seq
    exact ⟨a, ns, rfl, .inl (by rw [← t.ints h1]; exact hx), hl, q _ _ (P.op (nr_val (.int _)))⟩
  case tuple l =>
    obtain ⟨ns, h1, h2⟩ := obind hr
    obtain ⟨hl, rfl⟩ := ite_some h2
    obtain ⟨a, xs, rfl, hx, t⟩ := (P.tw k).tseq
    exact ⟨a, ns, rfl, .inr (by rw [← t.ints h1]; exact hx.sqt), hl, q _ _ (P.op (nr_val (.int _)))⟩
end
end Dv
set_option Elab.async false
set_option linter.all false
set_option maxRecDepth 100000
set_option maxHeartbeats 4000000
namespace Dv
open PySem PySem.Spec PyProof.Rows L2 Gq
end Dv
set_option Elab.async false
set_option linter.all false
set_option maxRecDepth 100000
set_option maxHeartbeats 4000000
namespace Dv
open PySem PySem.Spec PyProof.Rows L2 Gq
end Dv
set_option Elab.async false
set_option linter.all false
set_option maxRecDepth 100000
set_option maxHeartbeats 4000000
namespace Dv
open PySem PySem.Spec PyProof.Rows L2 Gq
end Dv
set_option Elab.async false
set_option linter.all false
set_option maxRecDepth 100000
set_option maxHeartbeats 4000000
namespace Dv
open PySem PySem.Spec PyProof.Rows L2 Gq
end Dv
set_option Elab.async false
set_option linter.all false
set_option maxRecDepth 100000
set_option maxHeartbeats 4000000
namespace Lw
open PySem PySem.Spec PyProof.Rows L2 Gq Dv
theorem call1_eq2 {F : Fn1} {i : Nat} {fs : Ea} {ρ ρ1 : Rho} {ds r r' r0 : List PD} {d : PD} {bo bo0 : Bool} (h0 : ρ[i]? = some (.own bo0 r0)) (ha : fs ρ = some (ds, ρ1)) (h : ρ1[i]? = some (.own bo r)) (hF : F r ds = some (d, r')) : fCall1 F i fs ρ = some (.val d, ρ1.set i (.own bo r')) := by
  unfold fCall1
  rw [h0]
  simp only [ha, Option.bind_some, h, hF, Option.map_some]
structure OrdOk (n : Nat) (o : List Int) : Prop where
  nd : o.Nodup
  rng : ∀ x ∈ o, 0 ≤ x ∧ x < n
theorem OrdOk.take {n : Nat} {o : List Int} (h : OrdOk n o) (k : Nat) : OrdOk n (o.take k) := ⟨h.nd.sublist (List.take_sublist k o), fun x hx => h.rng x (List.mem_of_mem_take hx)⟩
end Lw
set_option Elab.async false
set_option linter.all false
set_option maxRecDepth 100000
set_option maxHeartbeats 4000000
namespace Dr
open PySem PySem.Spec PyProof.Rows L2 Gq Dv Lw Fz Ha
abbrev FR (S : PD) (R : Fs) (l : List PD) : Fs := .v S :: .o l :: R
section
variable {S : PD} {R : Fs}
def DV (f : Ev) (S : PD) (R : Fs) (P : PD → Prop) : Prop := ∀ l, RowOk l → ∀ ρ, Fr (FR S R l) ρ → ∃ d l' ρ', f ρ = some (.val d, ρ') ∧ P d ∧ RowOk l' ∧ Fr (FR S R l') ρ'
def DF (f : Ev) (S : PD) (R : Fs) (P : PD → Prop) : Prop := DV (fVal f) S R P
def DN (f : Ev) (S : PD) (R : Fs) (P : List PD → Prop) : Prop := ∀ l, RowOk l → ∀ ρ, Fr (FR S R l) ρ → ∃ d l' ρ', f ρ = some (.new d, ρ') ∧ P d ∧ RowOk l' ∧ Fr (FR S R l') ρ'
def DP (f : Ev) (S : PD) (R : Fs) (P : PD → Prop) : Prop := ∀ l, RowOk l → ∀ ρ, Fr (FR S R l) ρ → ∃ d r l' ρ', f ρ = some (r, ρ') ∧ P d ∧ RowOk l' ∧ Fr (FR S R l') ρ' ∧ ∀ l'' ρ'', Fr (FR S R l'') ρ'' → pk r ρ'' = some d
def DA (fs : Ea) (S : PD) (R : Fs) (P : List PD → Prop) : Prop := ∀ l, RowOk l → ∀ ρ, Fr (FR S R l) ρ → ∃ ds l' ρ', fs ρ = some (ds, ρ') ∧ P ds ∧ RowOk l' ∧ Fr (FR S R l') ρ'
def DR (fs : Er) (S : PD) (R : Fs) (P : List Rs → Prop) : Prop := ∀ l, RowOk l → ∀ ρ, Fr (FR S R l) ρ → ∃ ds l' ρ', fs ρ = some (ds, ρ') ∧ P ds ∧ RowOk l' ∧ Fr (FR S R l') ρ'
variable {f f1 f2 f3 : Ev} {fs : Ea} {g g1 g2 : Et} {P P1 P2 : PD → Prop} {A : List PD → Prop} {d : PD} {m : List PD} {i : Nat} {k : Sk}
theorem dv_pure (h : ∀ l, EvV f (FR S R l) (some d)) : DV f S R (· = d) := fun l hl ρ hF => by
  obtain ⟨ρ', e, hF'⟩ := h l ρ hF d rfl
  exact ⟨d, l, ρ', e, rfl, hl, hF'⟩
theorem da_pure (h : ∀ l, EvA fs (FR S R l) (some m)) : DA fs S R (· = m) := fun l hl ρ hF => by
  obtain ⟨ρ', e, hF'⟩ := h l ρ hF m rfl
  exact ⟨m, l, ρ', e, rfl, hl, hF'⟩
theorem DV.p (h : DV f S R P) : DP f S R P := fun l hl ρ hF => by
  obtain ⟨d, l', ρ', e, p, q1, q2⟩ := h l hl ρ hF
  exact ⟨d, _, l', ρ', e, p, q1, q2, fun _ _ _ => rfl⟩
theorem DN.p (h : DN f S R A) : DP f S R (fun d => ∃ m, d = .list m ∧ A m) := fun l hl ρ hF => by
  obtain ⟨m, l', ρ', e, p, q1, q2⟩ := h l hl ρ hF
  exact ⟨.list m, _, l', ρ', e, ⟨m, rfl, p⟩, q1, q2, fun _ _ _ => rfl⟩
theorem DV.fz (h : DV f S R P) : DF f S R P := fun l hl ρ hF => by
  obtain ⟨d, l', ρ', e, q⟩ := h l hl ρ hF
  exact ⟨d, l', ρ', val_v e, q⟩
theorem DN.fz (h : DN f S R A) : DF f S R (fun d => ∃ m, d = .list m ∧ A m) := fun l hl ρ hF => by
  obtain ⟨m, l', ρ', e, p, q⟩ := h l hl ρ hF
  exact ⟨.list m, l', ρ', val_eq e rfl, ⟨m, rfl, p⟩, q⟩
theorem dv_cst : DV (fCst d) S R (· = d) := dv_pure fun _ => ev_cst
theorem dv_bin {z : PD → PD → Option Rs} (h1 : DP f1 S R P1) (h2 : DP f2 S R P2) (hz : ∀ a b, P1 a → P2 b → ∃ d, z a b = some (.val d) ∧ P d) : DV (fBin z f1 f2) S R P := fun l hl ρ hF => by
  obtain ⟨a, r1, l1, ρ1, e1, p1, hl1, hF1, q1⟩ := h1 l hl ρ hF
  obtain ⟨b, r2, l2, ρ2, e2, p2, hl2, hF2, q2⟩ := h2 l1 hl1 ρ1 hF1
  obtain ⟨d, e, p⟩ := hz a b p1 p2
  exact ⟨d, l2, ρ2, bin_eq e1 e2 (q1 _ _ hF2) (q2 _ _ hF2) e, p, hl2, hF2⟩
theorem da_nil : DA aNil S R (· = []) := fun l hl ρ hF => ⟨[], l, ρ, rfl, rfl, hl, hF⟩
theorem da_cons (h : DF f S R P) (t : DA fs S R A) : DA (aCons f fs) S R (fun ds => ∃ d ms, ds = d :: ms ∧ P d ∧ A ms) := fun l hl ρ hF => by
  obtain ⟨d, l1, ρ1, e1, p1, hl1, hF1⟩ := h l hl ρ hF
  obtain ⟨ms, l2, ρ2, e2, p2, hl2, hF2⟩ := t l1 hl1 ρ1 hF1
  exact ⟨d :: ms, l2, ρ2, acons_eq e1 e2, ⟨d, ms, rfl, p1, p2⟩, hl2, hF2⟩
theorem dv_call1 {F : Fn1} (h : DA fs S R A) (hF' : ∀ r ds, RowOk r → A ds → ∃ d r', F r ds = some (d, r') ∧ RowOk r' ∧ P d) : DV (fCall1 F 1 fs) S R P := fun l hl ρ hF => by
  obtain ⟨ms, l2, ρ2, e2, p2, hl2, hF2⟩ := h l hl ρ hF
  obtain ⟨d, r', e, hr, p⟩ := hF' l2 ms hl2 p2
  obtain ⟨s, h1, h2⟩ := hF.get (i := 1) rfl
  have h2 : s = .own false l := h2
  subst h2
  obtain ⟨s, h3, h4⟩ := hF2.get (i := 1) rfl
  have h4 : s = .own false l2 := h4
  subst h4
  refine ⟨d, r', ρ2.set 1 (.own false r'), call1_eq2 h1 e2 h3 e, p, hr, ?_⟩
  exact hF2.set (k := .o r') (s := .own false r') rfl 1
theorem dv_taken (h : DA fs S R A) (hA : ∀ ds, A ds → ∃ m : Int, ds = [.int m] ∧ 0 < m ∧ m < 100 ∧ ∀ v : Nat, (v : Int) < m → P (.int (v : Int))) : DV (fCall1 F_taken 1 fs) S R P := dv_call1 h fun r ds hr hd => by
  obtain ⟨m, rfl, h0, h1, hP⟩ := hA ds hd
  obtain ⟨v, r', e, R', v0, v1⟩ := taken_ok (m := m) hr h0 h1
  refine ⟨_, r', e, R', ?_⟩
  have := hP v.toNat (by omega)
  rwa [Int.toNat_of_nonneg v0] at this
theorem dv_tk {m : Int} (h : ∀ l, EvV f (FR S R l) (some (.int m))) (h0 : 0 < m) (h1 : m < 100) : DV (fCall1 F_taken 1 (aCons f aNil)) S R (fun d => ∃ v : Nat, (v : Int) < m ∧ d = .int (v : Int)) :=
  dv_taken (da_cons (dv_pure h).fz da_nil) fun ds hd => by
    obtain ⟨d, ms, rfl, rfl, rfl⟩ := hd
    exact ⟨m, rfl, h0, h1, fun v hv => ⟨v, hv, rfl⟩⟩
variable {r : PD} {Q : Gd.Qs} {l : List PD} {ρ : Rho}
theorem d_asg (hF : Fr (FR S R l) ρ) (hl : RowOk l) (h : DV f S R P) (hi : R[i]? = some k) (h2 : ∀ d l' ρ', P d → RowOk l' → Fr (FR S (R.set i (.v d)) l') ρ' → Q.nx ρ') : Ha.V r Q (cAsg (i + 2) f ρ) := by
  obtain ⟨d, l1, ρ1, e1, p1, hl1, hF1⟩ := h l hl ρ hF
  rw [V_eq, asg_val e1 (hF1.wr (i := i + 2) (k := k) hi)]
  exact h2 d l1 _ p1 hl1 (hF1.set (sok_v (d := d)) (i + 2))
theorem dr_nil : DR rNil S R (· = []) := fun l hl ρ hF => ⟨[], l, ρ, rfl, rfl, hl, hF⟩
theorem dr_v {fs : Er} {B : List Rs → Prop} (h : DV f S R P) (t : DR fs S R B) : DR (rCons f fs) S R (fun ds => ∃ d ms, ds = .val d :: ms ∧ P d ∧ B ms) := fun l hl ρ hF => by
  obtain ⟨d, l1, ρ1, e1, p1, hl1, hF1⟩ := h l hl ρ hF
  obtain ⟨ms, l2, ρ2, e2, p2, hl2, hF2⟩ := t l1 hl1 ρ1 hF1
  exact ⟨.val d :: ms, l2, ρ2, rcons_val e1 e2, ⟨d, ms, rfl, p1, p2⟩, hl2, hF2⟩
theorem d_par {is : List Nat} {fs : Er} {B : List Rs → Prop} (hF : Fr (FR S R l) ρ) (hl : RowOk l) (h : DR fs S R B) (h2 : ∀ rs l' ρ', B rs → RowOk l' → Fr (FR S R l') ρ' → ∃ ρ2, putsR is rs ρ' = some ρ2 ∧ Q.nx ρ2) : Ha.V r Q (cParR is fs ρ) := by
  obtain ⟨rs, l1, ρ1, e1, p1, hl1, hF1⟩ := h l hl ρ hF
  obtain ⟨ρ2, e3, e4⟩ := h2 rs l1 ρ1 p1 hl1 hF1
  rw [V_eq, par_eq e1 e3]
  exact e4
theorem start {seed : Int} {ns : List Int} {n : Nat} {own : Bool} {p : Es} (h0 : 0 ≤ seed) (h1 : seed < 2147483647) (R : Fs) (hR : Fr R (noS n))
    (h : ∀ l ρ, RowOk l → Fr (FR (.list (ls ns)) R l) ρ → Ha.V (.bool true) (Gd.Q0 (.bool true)) (p ρ)) :
    ∃ ρ', cSeq (cAsg 1 (fLst (aCons (fLoc 0) (aCons (fCst (.int 0)) (aCons (fCst (.int seed)) (aCons (fCst (.int 0)) aNil)))))) p (st0 own ns :: noS (n + 1)) = some (.rt (.bool true) ρ') :=
  seq_ex (row_start seed ns n own) (v_true (h _ _ (row_ok h0 h1) (fr_v (fr_o hR))))
end
end Dr
namespace Dr
open PySem PySem.Spec PyProof.Rows L2 Gq Dv Lw Fz Ha
section
variable {S : PD} {R : Fs} {f : Ev}
theorem dv_size {m : Int} (h : ∀ l, EvV f (FR S R l) (some (.int m))) (h0 : 0 < m) (h1 : m < 100) : DV (fBin hAdd (fCst (.int 1)) (fCall1 F_taken 1 (aCons f aNil))) S R (fun d => ∃ n : Nat, 0 < n ∧ (n : Int) ≤ m ∧ d = .int (n : Int)) :=
  dv_bin dv_cst.p (dv_tk h h0 h1).p fun a b ha ⟨v, hv, hb⟩ => by
    subst ha hb
    exact ⟨_, rfl, v + 1, by omega, by omega, by show PyData.int (1 + (v : Int)) = _; congr 1; omega⟩
theorem pev_loc {i : Nat} {d : PD} (h : ∀ l, (FR S R l)[i]? = some (.v d)) : ∀ l, EvV (fLoc i) (FR S R l) (some d) := fun l => ev_loc (h l)
theorem pev_cst {d : PD} : ∀ l, EvV (fCst d) (FR S R l) (some d) := fun _ => ev_cst
end
end Dr
namespace Dr
open PySem PySem.Spec PyProof.Rows L2 Gq Dv Lw Fz Ha
end Dr
set_option Elab.async false
set_option linter.all false
set_option maxRecDepth 100000
set_option maxHeartbeats 4000000
namespace Dr
open PySem PySem.Spec PyProof.Rows L2 Gq Dv Lw Fz Ha
end Dr
set_option Elab.async false
set_option linter.all false
set_option maxRecDepth 100000
set_option maxHeartbeats 4000000
namespace Gd
open PySem PySem.Spec PyProof.Rows L2 Gq Dv Lw Fz
end Gd
namespace Ha
open PySem PySem.Spec PyProof.Rows L2 Gq Dv Lw Fz
open Gd hiding EvA EvF EvN EvO EvP EvR EvT EvV all_dir any_dir cmp_dir col_dir ea_cons ea_nil ea_star ei_r1 ei_r2 ei_seq eo_no eo_some er_f er_n er_nil er_v ev_allG ev_and ev_anyG ev_app ev_bin ev_binN ev_call ev_chain ev_cnt ev_comp ev_comp2 ev_cst ev_frz ev_gand ev_gnot ev_gor ev_gyes ev_isTL ev_isi ev_ite ev_listR1 ev_loc ev_lst ev_not ev_or ev_own ev_sl ev_slN ev_sumG ev_tst ev_tup ev_tupG ev_tupR1 ev_un ev_unN pt_n pt_v trn_dir w_app w_asgF w_asgN w_asgV w_aug w_exp w_for w_forc w_if w_par w_ret w_unp2 w_whl
variable {F : Fs} {ρ : Rho} {r : PD} {Q : Qs} {i : Nat} {l : List PD} {f f2 : Ev} {E E2 : Option PD}
end Ha
namespace Gd
open PySem PySem.Spec PyProof.Rows L2 Gq Dv Lw Fz
noncomputable section
def p3 {α : Type} (d : PD) (k : PD → PD → PD → Option α) : Option α := match d with
  | .tuple [a, .tuple [b, c]] => k a b c
  | _ => none
end
end Gd
namespace Ha
open PySem PySem.Spec PyProof.Rows L2 Gq Dv Lw Fz
open Gd hiding EvA EvF EvN EvO EvP EvR EvT EvV all_dir any_dir cmp_dir col_dir ea_cons ea_nil ea_star ei_r1 ei_r2 ei_seq eo_no eo_some er_f er_n er_nil er_v ev_allG ev_and ev_anyG ev_app ev_bin ev_binN ev_call ev_chain ev_cnt ev_comp ev_comp2 ev_cst ev_frz ev_gand ev_gnot ev_gor ev_gyes ev_isTL ev_isi ev_ite ev_listR1 ev_loc ev_lst ev_not ev_or ev_own ev_sl ev_slN ev_sumG ev_tst ev_tup ev_tupG ev_tupR1 ev_un ev_unN pt_n pt_v trn_dir w_app w_asgF w_asgN w_asgV w_aug w_exp w_for w_forc w_if w_par w_ret w_unp2 w_whl
variable {F : Fs} {L : Option (List PD)} {fs : Ea} {g : Et} {k : Sk}
end Ha
set_option Elab.async false
set_option linter.all false
set_option maxRecDepth 100000
set_option maxHeartbeats 4000000
namespace Ha
open PySem PySem.Spec PyProof.Rows L2 Gq Dv Lw Fz Gd
end Ha
set_option Elab.async false
set_option linter.all false
set_option maxRecDepth 100000
set_option maxHeartbeats 4000000
namespace Gd
open PySem PySem.Spec PyProof.Rows L2 Gq Dv Lw Fz
def t3 {α : Type} (d : PD) (K : PD → PD → PD → Option α) : Option α := match d with
  | .tuple [a, b, c] => K a b c
  | _ => none
end Gd
namespace Ha
open PySem PySem.Spec PyProof.Rows L2 Gq Dv Lw Fz
open Gd hiding EvA EvF EvN EvO EvP EvR EvT EvV all_dir any_dir cmp_dir col_dir ea_cons ea_nil ea_star ei_r1 ei_r2 ei_seq eo_no eo_some er_f er_n er_nil er_v ev_allG ev_and ev_anyG ev_app ev_bin ev_binN ev_call ev_chain ev_cnt ev_comp ev_comp2 ev_cst ev_frz ev_gand ev_gnot ev_gor ev_gyes ev_isTL ev_isi ev_ite ev_listR1 ev_loc ev_lst ev_not ev_or ev_own ev_sl ev_slN ev_sumG ev_tst ev_tup ev_tupG ev_tupR1 ev_un ev_unN pt_n pt_v trn_dir w_app w_asgF w_asgN w_asgV w_aug w_exp w_for w_forc w_if w_par w_ret w_unp2 w_whl
end Ha
set_option Elab.async false
set_option linter.all false
set_option maxRecDepth 100000
set_option maxHeartbeats 4000000
namespace Pg
open PySem PySem.Spec PyProof.Rows L2 Gq Dv Lw Fz
open Gd hiding EvA EvF EvN EvO EvP EvR EvT EvV all_dir any_dir cmp_dir col_dir ea_cons ea_nil ea_star ei_r1 ei_r2 ei_seq eo_no eo_some er_f er_n er_nil er_v ev_allG ev_and ev_anyG ev_app ev_bin ev_binN ev_call ev_chain ev_cnt ev_comp ev_comp2 ev_cst ev_frz ev_gand ev_gnot ev_gor ev_gyes ev_isTL ev_isi ev_ite ev_listR1 ev_loc ev_lst ev_not ev_or ev_own ev_sl ev_slN ev_sumG ev_tst ev_tup ev_tupG ev_tupR1 ev_un ev_unN pt_n pt_v trn_dir w_app w_asgF w_asgN w_asgV w_aug w_exp w_for w_forc w_if w_par w_ret w_unp2 w_whl
open Ha Ck Pk
noncomputable section
def G_is_plain_integer : Fn0 := q1 fun z1 => (xAnd (xIsi 0 (some z1)) (xNot (xIsi 1 (some z1))))
def G_is_integer_from : Fn0 := q3 fun z1 z2 z3 => (xAnd (x1 (xc (some z1) (some [])) G_is_plain_integer) (xChain (hB leI) (hB leI) (some z2) (some z1) (some z3)))
def G_is_holder : Fn0 := q2 fun z1 z2 => (x1 (xc (some z1) (xc (some (.int (-1))) (xc (xBin (hI iSub) (some z2) (some (.int 1))) (some [])))) G_is_integer_from)
def G_is_deputies : Fn0 := q1 fun z1 => (xIf (tOr (tNot (bT (xIsi 4 (some z1)))) (tNot (bT (xChain (hB leI) (hB leI) (some (.int 1)) (xUn z_hLen (some z1)) (some (.int (6))))))) (some (.bool false)) (xAllG (xR1 (xc (xUn z_hLen (some z1)) (some []))) (fun v2 => (some true)) (fun v2 => (xAnd (x1 (xc (xBin z_hIx (some z1) (some v2)) (xc (xUn z_hLen (some z1)) (some []))) G_is_holder) (xBin (z_hEq true) (xBin z_hIx (some z1) (some v2)) (some v2))))))
def G_check_deputies : Fn0 := q1 fun z1 => (xIf (tNot (bT (x1 (xc (some z1) (some [])) G_is_deputies))) none (some .none))
def G_are_unlike_holders : Fn0 := q2 fun z1 z2 => (xIf (tOr (tNot (bT (xIsi 4 (some z1)))) (tNot (bT (xAllG (xI (some z1)) (fun v3 => (some true)) (fun v3 => (x1 (xc (some v3) (xc (some z2) (some []))) G_is_holder)))))) (some (.bool false)) (xBin (z_hEq false) (xUn hLenSetX (some z1)) (xUn z_hLen (some z1))))
def G_is_order : Fn0 := q2 fun z1 z2 => (xAnd (x1 (xc (some z1) (xc (some z2) (some []))) G_are_unlike_holders) (xBin (z_hInX true) (some (.int (-1))) (some z1)))
def G_is_lot : Fn0 := q2 fun z1 z2 => (xAnd (x1 (xc (some z1) (xc (some z2) (some []))) G_is_order) (xBin (z_hEq false) (xL (xUnN hList (some z1))) (xL (xUnN hSort3 (some z1)))))
def G_check_lot : Fn0 := q2 fun z1 z2 => (xIf (tNot (bT (x1 (xc (some z1) (xc (some z2) (some []))) G_is_lot))) none (some .none))
def G_chain_of_w0 (z1 : PD) (z2 : PD) (k : List PD → PD → Option PD) (n : Nat) : List PD → PD → Option PD :=
  Nat.rec (motive := fun _ => List PD → PD → Option PD) (fun _ _ => none) (fun _ ih => fun s5 s6 => xIf (tAnd (bT (xBin (z_hEq true) (some s6) (some (.int (-1))))) (bT (xBin (z_hInX true) (some s6) (some (.list s5))))) (x1 (some s6) fun d7 => xapp s5 (x1 (xBin z_hIx (some z1) (some s6)) fun d8 => (ih (appR s5 [d7]) d8))) (k s5 s6)) n
def G_chain_of : Fn0 := q2 fun z1 z2 => (x1 (xS (some [])) fun l3 => (x1 (some z2) fun d4 => (G_chain_of_w0 z1 z2 (fun s9 s10 => (xUn hTuple (some (.list s9)))) 1000 l3 d4)))
def G_holder_of_l0 (z1 : PD) (z2 : PD) (z3 : PD) (k : Option PD) (xs : List PD) : Option PD :=
  List.rec (motive := fun _ => Option PD) (k) (fun y4 _ ih => (xIf (bT (xBin (z_hInX true) (some y4) (some z2))) (some y4) ih)) xs
def G_holder_of : Fn0 := q3 fun z1 z2 z3 => (x1 (xI (x1 (xc (some z1) (xc (some z3) (some []))) G_chain_of)) fun l5 => G_holder_of_l0 z1 z2 z3 (some (.int (-1))) l5 )
def G_holders_of : Fn0 := q2 fun z1 z2 => (xTupG (xR1 (xc (xUn z_hLen (some z1)) (some []))) (fun v3 => (some true)) (fun v3 => (x1 (xc (some z1) (xc (some z2) (xc (some v3) (some [])))) G_holder_of)))
def G_loads_of : Fn0 := q2 fun z1 z2 => (x1 (x1 (xc (some z1) (xc (some z2) (some []))) G_holders_of) fun d3 => (x1 (xTupG (xR1 (xc (xUn z_hLen (some z1)) (some []))) (fun v4 => (some true)) (fun v4 => (xCnt (some d3) (some v4)))) fun d5 => (xT (xst (some d5) (xc (xCnt (some d3) (some (.int (-1)))) (some []))))))
def G_holders : Fn0 := q2 fun z1 z2 => (x1 (x1 (xc (some z1) (some [])) G_check_deputies) fun _ => (x1 (x1 (xc (some z2) (xc (xUn z_hLen (some z1)) (some []))) G_check_lot) fun _ => (x1 (xc (some z1) (xc (some z2) (some []))) G_holders_of)))
def kVV (k : PD → PD → Option PD) : List Rs → Option PD := fun rs => match rs with | [.val a0, .val a1] => k a0 a1 | _ => none
def G__law_ratio_w0 (z1 : PD) (z2 : PD) (k : PD → PD → Option PD) (n : Nat) : PD → PD → Option PD :=
  Nat.rec (motive := fun _ => PD → PD → Option PD) (fun _ _ => none) (fun _ ih => fun s5 s6 => xIf (bT (xBin (z_hEq true) (some s6) (some (.int 0)))) (x1 (xrV (some s6) (xrV (xBin (hI modI) (xUn hInt (some s5)) (some s6)) (some []))) (kVV fun d7 d8 => (ih d7 d8))) (k s5 s6)) n
def G__law_ratio : Fn0 := q2 fun z1 z2 => (x1 (xrV (xApp (a1 iAbs) (xc (some z1) (some []))) (xrV (xApp (a1 iAbs) (xc (some z2) (some []))) (some []))) (kVV fun d3 d4 => (G__law_ratio_w0 z1 z2 (fun s9 s10 => (xIf (bT (xBin (hB gtI) (some z2) (some (.int 0)))) (xT (xc (xBin (hI divI) (some z1) (some s9)) (xc (xBin (hI divI) (some z2) (some s9)) (some [])))) (xT (xc (xBin (hI iSub) (some (.int 0)) (xBin (hI divI) (some z1) (some s9))) (xc (xBin (hI iSub) (some (.int 0)) (xBin (hI divI) (some z2) (some s9))) (some [])))))) 1000 d3 d4)))
def G_check_count : Fn0 := q3 fun z1 z2 z3 => (xIf (tNot (bT (x1 (xc (some z1) (xc (some z2) (xc (some z3) (some [])))) G_is_integer_from))) none (some .none))
def G_lots_of : Fn0 := q2 fun z1 z2 => (xL (xListI (xCmbR (some z1) (some z2))))
def G_ratio : Fn0 := q2 fun z1 z2 => (x1 (xApp (a2 iGcd) (xc (some z1) (xc (some z2) (some [])))) fun d3 => (xT (xc (xBin (hI divI) (some z1) (some d3)) (xc (xBin (hI divI) (some z2) (some d3)) (some [])))))
def G_ahead_of : Fn0 := q3 fun z1 z2 z3 => (x1 (x1 (xc (some z1) (xc (some z2) (some []))) G_chain_of) fun d4 => (xIf (bT (xBin (z_hEq false) (some z3) (some (.int (-1))))) (some d4) (xIf (bT (xBin (z_hInX true) (some z3) (some d4))) (some .none) (xSl (some d4) (some none) (xOs (x2 (some d4) (some z3) hIdxM))))))
def G_ever_chance_of : Fn0 := q3 fun z1 z2 z3 => (xIf (bT (xBin (z_hEq false) (some z3) (some (.int (-1))))) (some (.tuple [.int (1), .int (1)])) (x1 (x1 (xc (some z1) (xc (some z2) (xc (some z3) (some [])))) G_ahead_of) fun d4 => (xIf (bT (xBin z_hIsN (some d4) (some .none))) (some (.tuple [.int (0), .int (1)])) (xT (xc (some (.int 1)) (xc (xBin z_hAdd (xUn z_hLen (some d4)) (some (.int 1))) (some [])))))))
def G_sum_of_l0 (z1 : PD) (k : PD → PD → Option PD) (xs : List PD) : PD → PD → Option PD :=
  List.rec (motive := fun _ => PD → PD → Option PD) (fun s4 s5 => k s4 s5) (fun y6 _ ih => fun s4 s5 => (p2 y6 fun y7 y8 => (x1 (x1 (xc (xBin z_hAdd (xBin (hI mulI) (some s4) (some y8)) (xBin (hI mulI) (some y7) (some s5))) (xc (xBin (hI mulI) (some s5) (some y8)) (some []))) G_ratio) fun d => p2 d fun d9 d10 => (ih d9 d10)))) xs
def G_sum_of : Fn0 := q1 fun z1 => (x1 (some (.int 0)) fun d2 => (x1 (some (.int 1)) fun d3 => (x1 (xI (some z1)) fun l13 => G_sum_of_l0 z1 (fun s11 s12 => (xT (xc (some s11) (xc (some s12) (some []))))) l13 d2 d3)))
def G_mean_handings : Fn0 := q1 fun z1 => (x1 (x1 (xc (some z1) (some [])) G_check_deputies) fun _ => (x1 (xListR1 (xUn z_hLen (some z1))) fun l2 => (x1 (xc (xL (xComp2 (xI (some (.list l2))) (fun v3 => (some true)) (fun v3 => (xI (some (.list l2)))) (fun v3 v4 => (some true)) (fun v3 v4 => (x1 (xc (some z1) (xc (some v3) (xc (some v4) (some [])))) G_ever_chance_of)))) (some [])) G_sum_of)))
def G__law_plus : Fn0 := q2 fun z1 z2 => (x1 (xc (xBin z_hAdd (xBin (hI mulI) (xBin z_hIx (some z1) (some (.int 0))) (xBin z_hIx (some z2) (some (.int 1)))) (xBin (hI mulI) (xBin z_hIx (some z2) (some (.int 0))) (xBin z_hIx (some z1) (some (.int 1))))) (xc (xBin (hI mulI) (xBin z_hIx (some z1) (some (.int 1))) (xBin z_hIx (some z2) (some (.int 1)))) (some []))) G__law_ratio)
def G__law_by : Fn0 := q2 fun z1 z2 => (x1 (xc (xBin (hI mulI) (xBin z_hIx (some z1) (some (.int 0))) (xBin z_hIx (some z2) (some (.int 0)))) (xc (xBin (hI mulI) (xBin z_hIx (some z1) (some (.int 1))) (xBin z_hIx (some z2) (some (.int 1)))) (some []))) G__law_ratio)
def G_all_lots : Fn0 := q1 fun z1 => (xL (xComp2 (xR1 (xc (xBin z_hAdd (some z1) (some (.int 1))) (some []))) (fun v2 => (some true)) (fun v2 => (xCmbR (some z1) (some v2))) (fun v2 v3 => (some true)) (fun v2 v3 => (some v3))))
def G_safe_count : Fn0 := q1 fun z1 => (x1 (x1 (xc (some z1) (some [])) G_check_deputies) fun _ => (xUn z_hLen (xL (xComp (xI (x1 (xc (xUn z_hLen (some z1)) (some [])) G_all_lots)) (fun v2 => (bT (xBin (z_hInX true) (some (.int (-1))) (x1 (xc (some z1) (xc (some v2) (some []))) G_holders_of)))) (fun v2 => (some v2))))))
def G__law_less : Fn0 := q2 fun z1 z2 => (xBin (hB ltI) (xBin (hI mulI) (xBin z_hIx (some z1) (some (.int 0))) (xBin z_hIx (some z2) (some (.int 1)))) (xBin (hI mulI) (xBin z_hIx (some z2) (some (.int 0))) (xBin z_hIx (some z1) (some (.int 1)))))
def G__law_every_l1 (z1 : PD) (s3 : List PD) (y4 : PD) (k : List PD → Option PD) (xs : List PD) : List PD → Option PD :=
  List.rec (motive := fun _ => List PD → Option PD) (fun s6 => k s6) (fun y7 _ ih => fun s6 => (x1 (xBinN z_hAdd (some (.list s6)) (xL (xComp (xR2 (xc (xUn hNeg (some (.int 1))) (xc (some z1) (some [])))) (fun v8 => (bT (xBin (z_hEq true) (some v8) (some y4)))) (fun v8 => (xBin z_hAdd (some y7) (xT (xc (some v8) (some [])))))))) fun l9 => (ih l9))) xs
def G__law_every_l0 (z1 : PD) (k : List PD → Option PD) (xs : List PD) : List PD → Option PD :=
  List.rec (motive := fun _ => List PD → Option PD) (fun s3 => k s3) (fun y4 _ ih => fun s3 => (x1 (xS (some [])) fun l5 => (x1 (xI (some (.list s3))) fun l11 => G__law_every_l1 z1 s3 y4 (fun s10 => (ih s10)) l11 l5))) xs
def G__law_every : Fn0 := q1 fun z1 => (x1 (xS (xc (xT (some [])) (some []))) fun l2 => (x1 (xR1 (xc (some z1) (some []))) fun l13 => G__law_every_l0 z1 (fun s12 => (some (.list s12))) l13 l2))
def G_power_of_l0 (z1 : PD) (z2 : PD) (k : PD → Option PD) (xs : List PD) : PD → Option PD :=
  List.rec (motive := fun _ => PD → Option PD) (fun s4 => k s4) (fun y5 _ ih => fun s4 => (x1 (xBin (hI mulI) (some s4) (some z1)) fun d6 => (ih d6))) xs
def G_power_of : Fn0 := q2 fun z1 z2 => (x1 (some (.int 1)) fun d3 => (x1 (xR1 (xc (some z2) (some []))) fun l8 => G_power_of_l0 z1 z2 (fun s7 => (some s7)) l8 d3))
def G_naming_count_of : Fn0 := q1 fun z1 => (x1 (xc (some z1) (xc (some z1) (some []))) G_power_of)
def G_chain_total_of : Fn0 := q2 fun z1 z2 => (xBin (hI mulI) (xBin (hI mulI) (xApp (a2 iPerm) (xc (some z1) (xc (some z2) (some [])))) (some z2)) (x1 (xc (some z1) (xc (xBin (hI iSub) (some z1) (some z2)) (some []))) G_power_of))
def G_mean_chain : Fn0 := q1 fun z1 => (x1 (x1 (xc (some z1) (xc (some (.int 1)) (xc (some (.int (60))) (some [])))) G_check_count) fun _ => (x1 (xUn hSum2 (xL (xComp (xR2 (xc (some (.int 1)) (xc (xBin z_hAdd (some z1) (some (.int 1))) (some [])))) (fun v2 => (some true)) (fun v2 => (xBin (hI mulI) (some v2) (x1 (xc (some z1) (xc (some v2) (some []))) G_chain_total_of)))))) fun d3 => (x1 (xc (some d3) (xc (xBin (hI mulI) (some z1) (x1 (xc (some z1) (some [])) G_naming_count_of)) (some []))) G_ratio)))
def G_naming_count : Fn0 := q1 fun z1 => (x1 (x1 (xc (some z1) (xc (some (.int 1)) (xc (some (.int (60))) (some [])))) G_check_count) fun _ => (x1 (xc (some z1) (some [])) G_naming_count_of))
def G_length_chances : Fn0 := q1 fun z1 => (x1 (x1 (xc (some z1) (xc (some (.int 1)) (xc (some (.int (60))) (some [])))) G_check_count) fun _ => (x1 (xBin (hI mulI) (some z1) (x1 (xc (some z1) (some [])) G_naming_count_of)) fun d2 => (xTupG (xR2 (xc (some (.int 1)) (xc (xBin z_hAdd (some z1) (some (.int 1))) (some [])))) (fun v3 => (some true)) (fun v3 => (x1 (xc (x1 (xc (some z1) (xc (some v3) (some []))) G_chain_total_of) (xc (some d2) (some []))) G_ratio)))))
def G_chance_of_out_l0 (z1 : PD) (z2 : PD) (k : PD → PD → PD → Option PD) (xs : List PD) : PD → PD → PD → Option PD :=
  List.rec (motive := fun _ => PD → PD → PD → Option PD) (fun s6 s7 s8 => k s6 s7 s8) (fun y9 _ ih => fun s6 s7 s8 => (x1 (xBin z_hAdd (xBin (hI mulI) (some s6) (some z1)) (xBin (hI mulI) (some s8) (some y9))) fun d10 => (x1 (xBin (hI mulI) (some s7) (some z1)) fun d11 => (x1 (xBin (hI mulI) (some s8) (xBin (hI iSub) (some z2) (some y9))) fun d12 => (ih d10 d11 d12))))) xs
def G_chance_of_out : Fn0 := q2 fun z1 z2 => (x1 (some (.int 0)) fun d3 => (x1 (some (.int 1)) fun d4 => (x1 (some (.int 1)) fun d5 => (x1 (xR2 (xc (some (.int 1)) (xc (xBin z_hAdd (some z2) (some (.int 1))) (some [])))) fun l16 => G_chance_of_out_l0 z1 z2 (fun s13 s14 s15 => (xT (xc (some s13) (xc (some s14) (some []))))) l16 d3 d4 d5))))
def G_random_out : Fn0 := q2 fun z1 z2 => (x1 (x1 (xc (some z1) (xc (some (.int 1)) (xc (some (.int (60))) (some [])))) G_check_count) fun _ => (x1 (x1 (xc (some z2) (xc (some (.int 1)) (xc (some z1) (some [])))) G_check_count) fun _ => (x1 (x1 (xc (some z1) (xc (some z2) (some []))) G_chance_of_out) fun d => p2 d fun d3 d4 => (x1 (xc (some d3) (xc (some d4) (some []))) G_ratio))))
def G_random_loads : Fn0 := q2 fun z1 z2 => (x1 (x1 (xc (some z1) (xc (some (.int 1)) (xc (some (.int (60))) (some [])))) G_check_count) fun _ => (x1 (x1 (xc (some z2) (xc (some (.int 0)) (xc (some z1) (some [])))) G_check_count) fun _ => (x1 (x1 (xc (some z1) (xc (some z2) (some []))) G_chance_of_out) fun d => p2 d fun d3 d4 => (x1 (x1 (xc (xBin (hI mulI) (some z2) (some d3)) (xc (some d4) (some []))) G_ratio) fun d5 => (xIf (bT (xBin (z_hEq false) (some z2) (some z1))) (xT (xc (xT (xc (some (.int 0)) (xc (some (.int 1)) (some [])))) (xc (some d5) (some [])))) (xT (xc (x1 (xc (xBin (hI iSub) (xBin (hI mulI) (some z1) (some d4)) (xBin (hI mulI) (some z2) (some d3))) (xc (xBin (hI mulI) (some d4) (xBin (hI iSub) (some z1) (some z2))) (some []))) G_ratio) (xc (some d5) (some [])))))))))
def G_least_chain_of : Fn0 := q1 fun z1 => (xMinG (xR1 (xc (xUn z_hLen (some z1)) (some []))) (fun v2 => (some true)) (fun v2 => (xUn z_hLen (x1 (xc (some z1) (xc (some v2) (some []))) G_chain_of))))
def G_surest : Fn0 := q1 fun z1 => (x1 (x1 (xc (some z1) (some [])) G_check_deputies) fun _ => (xBin (hI iSub) (x1 (xc (some z1) (some [])) G_least_chain_of) (some (.int 1))))
def G_long_rings_of_l0 (z1 : PD) (z2 : PD) (k : List PD → Option PD) (xs : List PD) : List PD → Option PD :=
  List.rec (motive := fun _ => List PD → Option PD) (fun s4 => k s4) (fun y5 _ ih => fun s4 => (x1 (xListR2 (some z2) (xBin z_hAdd (some y5) (some (.int 1)))) fun l6 => (x1 (xUn hSum2 (xL (xComp (xI (some (.list l6))) (fun v7 => (some true)) (fun v7 => (xBin (hI mulI) (xApp (a2 iPerm) (xc (xBin (hI iSub) (some y5) (some (.int 1))) (xc (xBin (hI iSub) (some v7) (some (.int 1))) (some [])))) (xBin z_hIx (some (.list s4)) (xBin (hI iSub) (some y5) (some v7)))))))) fun d8 => xapp s4 (ih (appR s4 [d8]))))) xs
def G_long_rings_of : Fn0 := q2 fun z1 z2 => (x1 (xS (xc (some (.int 1)) (some []))) fun l3 => (x1 (xR2 (xc (some (.int 1)) (xc (xBin z_hAdd (some z1) (some (.int 1))) (some [])))) fun l10 => G_long_rings_of_l0 z1 z2 (fun s9 => (some (.list s9))) l10 l3))
def G_ways_to_rings_of : Fn0 := q2 fun z1 z2 => (xIf (bT (xBin (z_hEq false) (some z2) (some z1))) (some (.int 1)) (xBin (hI mulI) (some z2) (x1 (xc (some z1) (xc (xBin (hI iSub) (xBin (hI iSub) (some z1) (some z2)) (some (.int 1))) (some []))) G_power_of)))
def G_sure_count_of : Fn0 := q2 fun z1 z2 => (x1 (x1 (xc (some z1) (xc (xBin z_hAdd (some z2) (some (.int 1))) (some []))) G_long_rings_of) fun d3 => (xUn hSum2 (xL (xComp (xR1 (xc (xBin z_hAdd (some z1) (some (.int 1))) (some []))) (fun v4 => (some true)) (fun v4 => (xBin (hI mulI) (xBin (hI mulI) (xApp (a2 iComb) (xc (some z1) (xc (some v4) (some [])))) (xBin z_hIx (some d3) (some v4))) (x1 (xc (some z1) (xc (some v4) (some []))) G_ways_to_rings_of)))))))
def G_sure_count : Fn0 := q2 fun z1 z2 => (x1 (x1 (xc (some z1) (xc (some (.int 1)) (xc (some (.int (60))) (some [])))) G_check_count) fun _ => (x1 (x1 (xc (some z2) (xc (some (.int 0)) (xc (some z1) (some [])))) G_check_count) fun _ => (x1 (xc (some z1) (xc (some z2) (some []))) G_sure_count_of)))
end
end Pg
set_option Elab.async false
set_option linter.all false
set_option maxRecDepth 100000
set_option maxHeartbeats 4000000
namespace Pg
open PySem PySem.Spec PyProof.Rows L2 Gq Dv Lw Fz
open Gd hiding EvA EvF EvN EvO EvP EvR EvT EvV all_dir any_dir cmp_dir col_dir ea_cons ea_nil ea_star ei_r1 ei_r2 ei_seq eo_no eo_some er_f er_n er_nil er_v ev_allG ev_and ev_anyG ev_app ev_bin ev_binN ev_call ev_chain ev_cnt ev_comp ev_comp2 ev_cst ev_frz ev_gand ev_gnot ev_gor ev_gyes ev_isTL ev_isi ev_ite ev_listR1 ev_loc ev_lst ev_not ev_or ev_own ev_sl ev_slN ev_sumG ev_tst ev_tup ev_tupG ev_tupR1 ev_un ev_unN pt_n pt_v trn_dir w_app w_asgF w_asgN w_asgV w_aug w_exp w_for w_forc w_if w_par w_ret w_unp2 w_whl
open Ha Ck Pk
noncomputable section
def G_mean_loads : Fn0 := q2 fun z1 z2 => (x1 (x1 (xc (some z1) (some [])) G_check_deputies) fun _ => (x1 (x1 (xc (some z2) (xc (some (.int 0)) (xc (xUn z_hLen (some z1)) (some [])))) G_check_count) fun _ => (x1 (xComp (xI (x1 (xc (xUn z_hLen (some z1)) (xc (some z2) (some []))) G_lots_of)) (fun v3 => (some true)) (fun v3 => (x1 (xc (some z1) (xc (some v3) (some []))) G_loads_of))) fun l4 => (xTupG (xR1 (xc (xBin z_hAdd (xUn z_hLen (some z1)) (some (.int 1))) (some []))) (fun v5 => (some true)) (fun v5 => (x1 (xc (xSumG (xI (some (.list l4))) (fun v6 => (some true)) (fun v6 => (xBin z_hIx (some v6) (some v5)))) (xc (xUn z_hLen (some (.list l4))) (some []))) G_ratio))))))
end
end Pg
set_option Elab.async false
set_option linter.all false
set_option maxRecDepth 100000
set_option maxHeartbeats 4000000
namespace Sa
open PySem PySem.Spec PyProof.Rows L2 Gq Dv Lw Fz Gd
abbrev tp (xs : List Int) : PD := .tuple (ls xs)
def rg (n : Nat) : List Int := (List.range n).map fun i : Nat => (i : Int)
section
variable {α β : Type} {a b : PD} {l m : List PD} {k : PD → Option α} {T : Option Bool} {E E1 E2 : Option PD}
theorem x1_s {γ δ : Type} {c : γ} {k : γ → Option δ} : x1 (some c) k = k c := rfl
theorem xc_s : xc (some a) (some l) = some (a :: l) := rfl
theorem add_int {i j : Int} : xBin z_hAdd (some (.int i)) (some (.int j)) = some (.int (i + j)) := rfl
end
end Sa
set_option Elab.async false
set_option linter.all false
set_option maxRecDepth 100000
set_option maxHeartbeats 4000000
namespace Sa
open PySem PySem.Spec PyProof.Rows L2 Gq Dv Lw Fz Gd
section
variable {α β : Type} {a b : PD} {l m : List PD} {T : PD → Option Bool} {V : PD → Option PD} {E E1 E2 : Option PD}
theorem smI_ok {n : Nat} (h : n ≤ 1000) : smI (n : Int) = true := Nat.ble_eq.mpr (show n ≤ 1000000 by omega)
end
end Sa
set_option Elab.async false
set_option linter.all false
set_option maxRecDepth 100000
set_option maxHeartbeats 4000000
namespace Sa
open PySem PySem.Spec PyProof.Rows L2 Gq Dv Lw Fz Gd
section
variable {α β : Type} {a b d e : PD} {l m : List PD} {E E1 E2 : Option PD} {neg : Bool}
def Sq (d : PD) (xs : List Int) : Prop := d = .tuple (ls xs) ∨ d = .list (ls xs)
theorem Sq.tup {xs : List Int} : Sq (.tuple (ls xs)) xs := .inl rfl
theorem Sq.lst {xs : List Int} : Sq (.list (ls xs)) xs := .inr rfl
inductive Fl : Nat → PD → Prop
  | none (k : Nat) : Fl k .none
  | int (k : Nat) (i : Int) : Fl k (.int i)
  | tup {k : Nat} {l : List PD} : (∀ x ∈ l, Fl k x) → Fl (k + 1) (.tuple l)
  | list {k : Nat} {l : List PD} : (∀ x ∈ l, Fl k x) → Fl (k + 1) (.list l)
theorem lay_all : ∀ {l : List PD}, (∀ x ∈ l, PyData.canLay0 x = true) → PyData.canLayAll0 l = true
  | [], _ => by simp [PyData.canLayAll0]
  | x :: l, h => by
    rw [PyData.canLayAll0, h x List.mem_cons_self, lay_all fun y hy => h y (List.mem_cons_of_mem _ hy)]; rfl
theorem dep_all {k : Nat} : ∀ {l : List PD}, (∀ x ∈ l, PyData.depth x ≤ k) → PyData.depthAll l ≤ k
  | [], _ => by simp [PyData.depthAll]
  | x :: l, h => by
    rw [PyData.depthAll]
    exact Nat.max_le.mpr ⟨h x List.mem_cons_self, dep_all fun y hy => h y (List.mem_cons_of_mem _ hy)⟩
theorem Fl.lay : ∀ {k : Nat} {d : PD}, Fl k d → PyData.canLay0 d = true ∧ PyData.depth d ≤ k := by
  intro k d h
  induction h with
  | none => exact ⟨by simp [PyData.canLay0], by simp [PyData.depth]⟩
  | int => exact ⟨by simp [PyData.canLay0], by simp [PyData.depth]⟩
  | tup h ih => exact ⟨by rw [PyData.canLay0]; exact lay_all fun x hx => (ih x hx).1, by rw [PyData.depth]; exact Nat.succ_le_succ (dep_all fun x hx => (ih x hx).2)⟩
  | list h ih => exact ⟨by rw [PyData.canLay0]; exact lay_all fun x hx => (ih x hx).1, by rw [PyData.depth]; exact Nat.succ_le_succ (dep_all fun x hx => (ih x hx).2)⟩
theorem Fl.shaped {k : Nat} {d : PD} (h : Fl k d) (hk : k ≤ 64) : SeqAt.shaped d = true := by
  obtain ⟨h1, h2⟩ := h.lay
  unfold SeqAt.shaped
  rw [h1, decide_eq_true (Nat.le_trans h2 hk)]; rfl
theorem Fl.up {k j : Nat} {d : PD} (h : Fl k d) : k ≤ j → Fl j d := by
  induction h generalizing j with
  | none => exact fun _ => .none _
  | int => exact fun _ => .int _ _
  | tup h ih => intro hk; obtain ⟨j', rfl⟩ : ∃ j', j = j' + 1 := ⟨j - 1, by omega⟩; exact .tup fun x hx => ih x hx (by omega)
  | list h ih => intro hk; obtain ⟨j', rfl⟩ : ∃ j', j = j' + 1 := ⟨j - 1, by omega⟩; exact .list fun x hx => ih x hx (by omega)
theorem Fl.ls {xs : List Int} : ∀ x ∈ Lw.ls xs, Fl 0 x := fun x hx => by
  obtain ⟨i, _, rfl⟩ := List.mem_map.mp hx
  exact .int _ _
theorem Fl.tp {xs : List Int} : Fl 1 (.tuple (Lw.ls xs)) := .tup Fl.ls
theorem eqvAll_iff : ∀ {l m : List PD}, (∀ x ∈ l, ∀ y, Fl 64 y → (PyData.eqv x y = true ↔ x = y)) → (∀ y ∈ m, Fl 64 y) → (PyData.eqvAll l m = true ↔ l = m)
  | [], [], _, _ => by simp [PyData.eqvAll]
  | [], y :: m, _, _ => by simp [PyData.eqvAll]
  | x :: l, [], _, _ => by simp [PyData.eqvAll]
  | x :: l, y :: m, h, h2 => by
    rw [PyData.eqvAll, Bool.and_eq_true, h x List.mem_cons_self y (h2 y List.mem_cons_self), eqvAll_iff (fun z hz => h z (List.mem_cons_of_mem _ hz)) (fun z hz => h2 z (List.mem_cons_of_mem _ hz)), List.cons.injEq]
theorem Fl.eqv {k : Nat} {d : PD} (h : Fl k d) : ∀ {e : PD}, Fl 64 e → (PyData.eqv d e = true ↔ d = e) := by
  induction h with
  | none => intro e he; cases he <;> simp [PyData.eqv]
  | int => intro e he; cases he <;> simp [PyData.eqv]
  | tup h ih =>
    intro e he
    cases he with
    | none => simp [PyData.eqv]
    | int => simp [PyData.eqv]
    | list => simp [PyData.eqv]
    | tup h2 =>
      rw [PyData.eqv, eqvAll_iff (fun x hx y hy => ih x hx hy) (fun y hy => (h2 y hy).up (by omega)), PyData.tuple.injEq]
  | list h ih =>
    intro e he
    cases he with
    | none => simp [PyData.eqv]
    | int => simp [PyData.eqv]
    | tup => simp [PyData.eqv]
    | list h2 =>
      rw [PyData.eqv, eqvAll_iff (fun x hx y hy => ih x hx hy) (fun y hy => (h2 y hy).up (by omega)), PyData.list.injEq]
end
end Sa
namespace Sa
open PySem PySem.Spec PyProof.Rows L2 Gq Dv Lw Fz Gd
end Sa
set_option Elab.async false
set_option linter.all false
set_option maxRecDepth 100000
set_option maxHeartbeats 4000000
namespace Sa
open PySem PySem.Spec PyProof.Rows L2 Gq Dv Lw Fz Gd
def chN (D : List Int) : Nat → List Int → Int → List Int
  | 0, m, _ => m
  | f + 1, m, a => if a ≠ -1 ∧ a ∉ m then chN D f (m ++ [a]) (nx D a) else m
def ch (D : List Int) (p : Int) : List Int := chN D 30 [] p
end Sa
set_option Elab.async false
set_option linter.all false
set_option maxRecDepth 100000
set_option maxHeartbeats 4000000
namespace Sa
open PySem PySem.Spec PyProof.Rows L2 Gq Dv Lw Fz Gd
end Sa
set_option Elab.async false
set_option linter.all false
set_option maxRecDepth 100000
set_option maxHeartbeats 4000000
namespace Sa
open PySem PySem.Spec PyProof.Rows L2 Gq Dv Lw Fz Gd
section
variable {n : Nat} {D g xs : List Int} {p q x i lo hi : Int} {gd d : PD} {l : List PD}
theorem _root_.Lw.OrdOk.len (L : OrdOk n g) : g.length ≤ n := pigeon L.nd L.rng
end
end Sa
set_option Elab.async false
set_option linter.all false
set_option maxRecDepth 100000
set_option maxHeartbeats 4000000
namespace Sa
open PySem PySem.Spec PyProof.Rows L2 Gq Dv Lw Fz Gd
end Sa
set_option Elab.async false
set_option linter.all false
set_option maxRecDepth 100000
set_option maxHeartbeats 4000000
namespace Sa
open PySem PySem.Spec PyProof.Rows L2 Gq Dv Lw Fz Gd
end Sa
set_option Elab.async false
set_option linter.all false
set_option maxRecDepth 100000
set_option maxHeartbeats 4000000
namespace Sa
open PySem PySem.Spec PyProof.Rows L2 Gq Dv Lw Fz Gd
section
variable {n : Nat} {D g o c : List Int} {p q x : Int} {s k : Nat}
def mo (o : List Int) : List Int → Nat → Int → Option Nat
  | [], s, q => if q = -1 then some s else none
  | x :: c, s, q => if s ≤ o.idxOf x then (if q = x then some s else mo o c (o.idxOf x + 1) q) else mo o c s q
end
end Sa
set_option Elab.async false
set_option linter.all false
set_option maxRecDepth 100000
set_option maxHeartbeats 4000000
namespace Sa
open PySem PySem.Spec PyProof.Rows L2 Gq Dv Lw Fz Gd
abbrev tps (xs : List (List Int)) : List PD := xs.map fun g => PyData.tuple (ls g)
def combs : Nat → Nat → Nat → List (List Int)
  | 0, _, 0 => [[]]
  | 0, _, _ + 1 => []
  | n + 1, k, 0 => [[]]
  | n + 1, k, m + 1 => (combs n (k + 1) m).map ((k : Int) :: ·) ++ combs n (k + 1) (m + 1)
def allL (n : Nat) : List (List Int) := (List.range (n + 1)).flatMap (combs n 0)
def depF (n : Nat) : Nat → List (List Int)
  | 0 => [[]]
  | k + 1 => (depF n k).flatMap fun D => ((-1 : Int) :: (List.range n).map fun i : Nat => (i : Int)).filterMap fun x => if x = (k : Int) then none else some (D ++ [x])
def depsL (n : Nat) : List (List Int) := depF n n
set_option maxHeartbeats 0
end Sa
set_option Elab.async false
set_option linter.all false
set_option maxRecDepth 100000
set_option maxHeartbeats 4000000
namespace Sa
open PySem PySem.Spec PyProof.Rows L2 Gq Dv Lw Fz Gd
structure Ord {α : Type} (lt : α → α → Bool) : Prop where
  irr : ∀ a, lt a a = false
  tri : ∀ {a b}, lt a b = false → lt b a = false → a = b
  trans : ∀ {a b c}, lt a b = true → lt b c = true → lt a c = true
theorem Ord.le_trans {α : Type} {lt : α → α → Bool} (O : Ord lt) {a b c : α} (h1 : lt b a = false) (h2 : lt c b = false) : lt c a = false := by
  cases e : lt c a with
  | false => rfl
  | true =>
    cases e2 : lt a b with
    | true => have := O.trans e e2; rw [h2] at this; cases this
    | false => have := O.tri h1 e2; subst this; rw [h2] at e; cases e
theorem lt_int (i j : Int) : ltP (.int i) (.int j) = decide (i < j) := rfl
set_option maxHeartbeats 0
end Sa
set_option Elab.async false
set_option linter.all false
set_option maxRecDepth 100000
set_option maxHeartbeats 4000000
namespace Sa
open PySem PySem.Spec PyProof.Rows L2 Gq Dv Lw Fz Gd
end Sa
set_option Elab.async false
set_option linter.all false
set_option maxRecDepth 100000
set_option maxHeartbeats 4000000
namespace Sa
open PySem PySem.Spec PyProof.Rows L2 Gq Dv Lw Fz Gd
end Sa
set_option Elab.async false
set_option linter.all false
set_option maxRecDepth 100000
set_option maxHeartbeats 4000000
namespace Sa
open PySem PySem.Spec PyProof.Rows L2 Gq Dv Lw Fz Gd
inductive Al : Nat → PD → Prop
  | none (k : Nat) : Al k .none
  | bool (k : Nat) (b : Bool) : Al k (.bool b)
  | int (k : Nat) (i : Int) : Al k (.int i)
  | tup {k : Nat} {l : List PD} : l.length ≤ 1000 → (∀ x ∈ l, Al k x) → Al (k + 1) (.tuple l)
  | list {k : Nat} {l : List PD} : l.length ≤ 1000 → (∀ x ∈ l, Al k x) → Al (k + 1) (.list l)
theorem Al.up {k j : Nat} {d : PD} (h : Al k d) : k ≤ j → Al j d := by
  induction h generalizing j with
  | none => exact fun _ => .none _
  | bool => exact fun _ => .bool _ _
  | int => exact fun _ => .int _ _
  | tup hl h ih => intro hk; obtain ⟨j', rfl⟩ : ∃ j', j = j' + 1 := ⟨j - 1, by omega⟩; exact .tup hl fun x hx => ih x hx (by omega)
  | list hl h ih => intro hk; obtain ⟨j', rfl⟩ : ∃ j', j = j' + 1 := ⟨j - 1, by omega⟩; exact .list hl fun x hx => ih x hx (by omega)
theorem Al.tp {xs : List Int} (h : xs.length ≤ 1000) : Al 1 (.tuple (ls xs)) := .tup (by rw [ls_len]; exact h) fun x hx => by
  obtain ⟨i, _, rfl⟩ := List.mem_map.mp hx
  exact .int _ _
theorem Al.tps {xs : List (List Int)} (h : xs.length ≤ 1000) (h2 : ∀ g ∈ xs, g.length ≤ 1000) : Al 2 (.tuple (tps xs)) := .tup (by simpa using h) fun x hx => by
  obtain ⟨g, hg, rfl⟩ := List.mem_map.mp hx
  exact .tp (h2 g hg)
end Sa
namespace Sa
open PySem PySem.Spec L2 Gq Dv Lw Fz Gd
end Sa
set_option Elab.async false
set_option linter.all false
set_option maxRecDepth 100000
set_option maxHeartbeats 4000000
namespace Sa
open PySem PySem.Spec PyProof.Rows L2 Gq Dv Lw Fz Gd
def bare (D : List Int) (p : Int) : Prop := 0 ≤ p ∧ nx D p = -1
end Sa
set_option Elab.async false
set_option linter.all false
set_option maxRecDepth 100000
set_option maxHeartbeats 4000000
namespace Sa
open PySem PySem.Spec PyProof.Rows L2 Gq Dv Lw Fz Gd
section
variable {n m : Nat} {D g : List Int} {p q x : Int} {d : PD}
inductive Nd : PD → Prop
  | none : Nd .none
  | bool (b : Bool) : Nd (.bool b)
  | int (i : Int) : Nd (.int i)
  | str (x : Str) : Nd (.str x)
  | list (l : List PD) : Nd (.list l)
  | tup {l : List PD} : (∀ d ∈ l, ∀ kv, d ≠ .dict kv) → l.length ≤ 4000 → Nd (.tuple l)
end
end Sa
set_option Elab.async false
set_option linter.all false
set_option maxRecDepth 100000
set_option maxHeartbeats 4000000
namespace Sa
open PySem PySem.Spec PyProof.Rows L2 Gq Dv Lw Fz Gd
end Sa
namespace Sa
open PySem PySem.Spec PyProof.Rows L2 Gq Dv Lw Fz Gd
end Sa
set_option Elab.async false
set_option linter.all false
set_option maxRecDepth 100000
set_option maxHeartbeats 1000000
namespace Sa
open PySem PySem.Spec L2 Gq Dv Lw Fz
open Gd hiding EvA EvF EvN EvO EvP EvR EvT EvV
section
variable {n : Nat} {D g costs : List Int} {T : List (List Int)} {p q x a b m : Int}
structure TabOk (n : Nat) (m : Int) (T : List (List Int)) : Prop where
  len : T.length = n
  row : ∀ r ∈ T, r.length = n + 1 ∧ ∀ x ∈ r, -m ≤ x ∧ x ≤ m
def cell (n : Nat) (T : List (List Int)) (p c : Int) : Int := (T.getD p.toNat []).getD (if c = -1 then n else c.toNat) 0
structure CostOk (n : Nat) (m : Int) (c : List Int) : Prop where
  len : c.length = n
  rng : ∀ x ∈ c, 0 ≤ x ∧ x ≤ m
end
end Sa
set_option Elab.async false
set_option linter.all false
set_option maxRecDepth 100000
set_option maxHeartbeats 1000000
namespace Sa
open PySem PySem.Spec L2 Gq Dv Lw Fz
open Gd hiding EvA EvF EvN EvO EvP EvR EvT EvV
section
variable {n m : Nat} {D g : List Int} {p q x : Int}
theorem nd_sub : ∀ {l m : List Int}, l.Nodup → (∀ x ∈ l, x ∈ m) → l.length ≤ m.length
  | [], _, _, _ => Nat.zero_le _
  | a :: l, m, h1, h2 => by
    obtain ⟨na, nl⟩ := List.nodup_cons.mp h1
    have ha := h2 a List.mem_cons_self
    have := nd_sub (l := l) (m := m.erase a) nl fun x hx => (List.mem_erase_of_ne (show x ≠ a from fun z => na (z ▸ hx))).mpr (h2 x (List.mem_cons_of_mem _ hx))
    rw [List.length_erase_of_mem ha] at this
    have : 0 < m.length := List.length_pos_of_mem ha
    simp only [List.length_cons]; omega
def rest (n : Nat) (p : Int) : List Int := (rg n).filter fun x => !decide (x = p)
end
end Sa
set_option Elab.async false
set_option linter.all false
set_option maxRecDepth 100000
set_option maxHeartbeats 1000000
namespace Sa
open PySem PySem.Spec L2 Gq Dv Lw Fz
open Gd hiding EvA EvF EvN EvO EvP EvR EvT EvV
end Sa
set_option Elab.async false
set_option linter.all false
set_option maxRecDepth 100000
set_option maxHeartbeats 1000000
namespace Sa
open PySem PySem.Spec L2 Gq Dv Lw Fz
open Gd hiding EvA EvF EvN EvO EvP EvR EvT EvV
end Sa
set_option Elab.async false
set_option linter.all false
set_option maxRecDepth 100000
set_option maxHeartbeats 1000000
namespace Sa
open PySem PySem.Spec L2 Gq Dv Lw Fz
open Gd hiding EvA EvF EvN EvO EvP EvR EvT EvV
end Sa
set_option Elab.async false
set_option linter.all false
set_option maxRecDepth 100000
set_option maxHeartbeats 1000000
namespace Sa
open PySem PySem.Spec L2 Gq Dv Lw Fz
open Gd hiding EvA EvF EvN EvO EvP EvR EvT EvV
def rt (t b : Nat) : PyData := .tuple [.int ((t / Nat.gcd t b : Nat) : Int), .int ((b / Nat.gcd t b : Nat) : Int)]
set_option maxHeartbeats 0 in
theorem law_every_1 : Pg.G__law_every [.int 1] = some (.list (tps (depsL 1))) := by kernel_rfl
set_option maxHeartbeats 0 in
theorem law_every_2 : Pg.G__law_every [.int 2] = some (.list (tps (depsL 2))) := by kernel_rfl
set_option maxHeartbeats 0 in
theorem law_every_3 : Pg.G__law_every [.int 3] = some (.list (tps (depsL 3))) := by kernel_rfl
theorem law_every_s {n : Nat} (h0 : 0 < n) (hn : n ≤ 3) : Pg.G__law_every [.int (n : Int)] = some (.list (tps (depsL n))) := by
  match n, h0, hn with
  | 1, _, _ => exact law_every_1
  | 2, _, _ => exact law_every_2
  | 3, _, _ => exact law_every_3
end Sa
set_option Elab.async false
set_option linter.all false
set_option maxRecDepth 100000
set_option maxHeartbeats 1000000
namespace Sa
open PySem PySem.Spec L2 Gq Dv Lw Fz
open Gd hiding EvA EvF EvN EvO EvP EvR EvT EvV
section
variable {n : Nat} {D g : List Int} {p q x : Int} {α : Type} {T : PD → Option Bool} {V : PD → Option PD}
abbrev sg (s : List Int × List Int) : PD := .tuple [.tuple (ls s.1), .tuple (ls s.2)]
structure SightOk (n : Nat) (s : List Int × List Int) : Prop where
  lot : LotOk n s.1
  len : s.2.length = n
  rng : ∀ x ∈ s.2, -1 ≤ x ∧ x < n
end
end Sa
set_option Elab.async false
set_option linter.all false
set_option maxRecDepth 100000
set_option maxHeartbeats 1000000
namespace Dr
open PySem PySem.Spec Gq Dv Lw Fz Ha
variable {S : PD} {R : Fs} {k : Sk} {g : Et}
end Dr
namespace Dr
open PySem PySem.Spec Gq Dv Lw Fz Ha
variable {S : PD} {R : Fs}
theorem dv_pureE {f : Ev} {E : Option PD} {d : PD} (h : ∀ l, EvV f (FR S R l) E) (e : E = some d) : DV f S R (· = d) := dv_pure fun l => e ▸ h l
end Dr
set_option Elab.async false
set_option linter.all false
set_option maxRecDepth 100000
set_option maxHeartbeats 4000000
namespace Lw
open PySem PySem.Spec PyProof.Rows L2 Gq Dv
theorem taken_big {r : List PD} {m : Int} (R : RowOk r) (h0 : 0 < m) (h1 : m < 1000) : ∃ v r', F_taken r [.int m] = some (.int v, r') ∧ RowOk r' ∧ 0 ≤ v ∧ v < m := by
  obtain ⟨ns, a, b, c, rfl, ha, hb, hb2⟩ := R.ex
  have em : ∀ i : Int, iMod i m = some (i % m) := fun i => if_pos h0
  have ed : ∀ i : Int, iDiv i m = some (i / m) := fun i => if_pos ⟨h0, by
    have x := PySem.Flt.log2_lt_of (by decide : 0 < 10) (show m.natAbs < 2 ^ 10 by omega)
    omega⟩
  have e7 : ∀ i : Int, iDiv i 7 = some (i / 7) := fun i => if_pos ⟨by decide, by decide⟩
  have eM : ∀ i : Int, iMod i 2147483647 = some (i % 2147483647) := fun i => if_pos (by decide)
  have eP : iPow 10 18 = some 1000000000000000000 := by decide
  have v0 : ∀ i : Int, 0 ≤ i % m ∧ i % m < m := fun i => ⟨Int.emod_nonneg _ (by omega), Int.emod_lt_of_pos _ h0⟩
  have w0 : ∀ i : Int, 0 ≤ i % 2147483647 ∧ i % 2147483647 < 2147483647 := fun i => ⟨Int.emod_nonneg _ (by decide), Int.emod_lt_of_pos _ (by decide)⟩
  by_cases hc : 0 < c
  · refine ⟨c % m, [.list (ns.map .int), .int a, .int b, .int (c / m)], ?_, ⟨ns, a, b, _, rfl, ha, hb, hb2⟩, v0 c⟩
    simp [F_taken, run1, c_taken, cSeq, cIf, fTst, fBin, fLoc, fCst, pk, hIx, at3, hB, iGt, hc, cAsg, fUn, hInt, hI, em, ed, wr, cSetIx, fVal, fzn, ixN, cRet, out0, noS, cNil, List.replicate]
  · by_cases hl : (ns.length : Int) < a + 1
    · refine ⟨(b * 48271 + 11) % 2147483647 / 7 % m, [.list (ns.map .int), .int (a + 1), .int ((b * 48271 + 11) % 2147483647), .int c], ?_, ⟨ns, _, _, _, rfl, by omega, w0 _⟩, v0 _⟩
      simp [F_taken, run1, c_taken, cSeq, cIf, fTst, fBin, fLoc, fCst, pk, hIx, at0, at1, at2, at3, hB, iGt, hc, hl, cAsg, fUn, hInt, hLen, hAdd, hI, em, ed, e7, eM, iMul_ok hb hb2, wr, cSetIx, fVal, fzn, ixN, cRet, out0, noS, cNil, List.replicate]
    · have hi : atI (ns.map PyData.int) a = some (.int (ns.getD a.toNat 0)) := by
        rw [atI_nat ha (by rw [List.length_map]; omega), List.getElem?_map, List.getD_eq_getElem?_getD, List.getElem?_eq_getElem (by omega)]; rfl
      by_cases hd : 1000000000000000000 ≤ ns.getD a.toNat 0
      · refine ⟨ns.getD a.toNat 0 % m, [.list (ns.map .int), .int (a + 1), .int ((b * 48271 + ns.getD a.toNat 0 + 11) % 2147483647), .int (ns.getD a.toNat 0 / m)], ?_, ⟨ns, _, _, _, rfl, by omega, w0 _⟩, v0 _⟩
        simp [F_taken, run1, c_taken, cSeq, cIf, fTst, fBin, fLoc, fCst, pk, hIx, at0, at1, at2, at3, hi, hB, iGt, iGe, hc, hl, hd, cAsg, fUn, hInt, hLen, hAdd, hI, em, ed, e7, eM, eP, iSub, iMul_ok hb hb2, wr, cSetIx, fVal, fzn, ixN, cRet, out0, noS, cNil, List.replicate, -List.getD_eq_getElem?_getD]
      · refine ⟨ns.getD a.toNat 0 % m, [.list (ns.map .int), .int (a + 1), .int ((b * 48271 + ns.getD a.toNat 0 + 11) % 2147483647), .int c], ?_, ⟨ns, _, _, _, rfl, by omega, w0 _⟩, v0 _⟩
        simp [F_taken, run1, c_taken, cSeq, cIf, fTst, fBin, fLoc, fCst, pk, hIx, at0, at1, at2, at3, hi, hB, iGt, iGe, hc, hl, hd, cAsg, fUn, hInt, hLen, hAdd, hI, em, ed, e7, eM, eP, iSub, iMul_ok hb hb2, wr, cSetIx, fVal, fzn, ixN, cRet, out0, noS, cNil, List.replicate, -List.getD_eq_getElem?_getD]
theorem pick_any {r xs : List PD} {b : Bool} (R : RowOk r) (h0 : 0 < xs.length) (h1 : xs.length < 1000) : ∃ (i : Nat) (h : i < xs.length) (r' : List PD), F_pick r [if b then .list xs else .tuple xs] = some (xs[i], r') ∧ RowOk r' := by
  obtain ⟨v, r', e, R', v0, v1⟩ := taken_big (m := xs.length) R (by omega) (by omega)
  have hv : v.toNat < xs.length := by omega
  have hi : atI xs v = some xs[v.toNat] := by
    rw [atI_nat v0 v1, List.getElem?_eq_getElem hv]
  cases b with
  | true =>
    refine ⟨v.toNat, hv, r', run1_rt (ρ := [.own true r', .val (.list xs)]) rfl ?_ rfl, R'⟩
    show c_pick [.own true r, .val (.list xs)] = _
    unfold c_pick
    simp [cRet, fVal, fBin, fLoc, fCall1, aCons, aNil, fUn, hLen, pk, fzn, e, hIx, hi]
  | false =>
    refine ⟨v.toNat, hv, r', run1_rt (ρ := [.own true r', .val (.tuple xs)]) rfl ?_ rfl, R'⟩
    show c_pick [.own true r, .val (.tuple xs)] = _
    unfold c_pick
    simp [cRet, fVal, fBin, fLoc, fCall1, aCons, aNil, fUn, hLen, pk, fzn, e, hIx, hi]
end Lw
namespace Dr
open PySem PySem.Spec Gq Dv Lw Fz Ha
variable {S : PD} {R : Fs}
theorem dv_pickL {f : Ev} {xs : List PD} (h : ∀ l, EvF f (FR S R l) (some (.list xs))) (h0 : 0 < xs.length) (h1 : xs.length < 1000) : DV (fCall1 F_pick 1 (aCons f aNil)) S R (fun d => d ∈ xs) :=
  dv_call1 (A := (· = [.list xs])) (da_pure fun l => by
    have := Ha.ea_cons (h l) Ha.ea_nil
    exact this) fun r ds hr hd => by
    subst hd
    obtain ⟨i, hi, r', e, R'⟩ := pick_any (b := true) hr h0 h1
    exact ⟨_, r', e, R', List.getElem_mem hi⟩
end Dr
set_option Elab.async false
set_option linter.all false
set_option maxRecDepth 100000
set_option maxHeartbeats 1000000
namespace Sa
open PySem PySem.Spec L2 Gq Dv Lw Fz
open Gd hiding EvA EvF EvN EvO EvP EvR EvT EvV
end Sa
set_option Elab.async false
set_option linter.all false
set_option maxRecDepth 100000
set_option maxHeartbeats 1000000
namespace Sa
open PySem PySem.Spec L2 Gq Dv Lw Fz
open Gd hiding EvA EvF EvN EvO EvP EvR EvT EvV
end Sa
set_option Elab.async false
set_option linter.all false
set_option maxRecDepth 100000
set_option maxHeartbeats 1000000
namespace Sa
open PySem PySem.Spec L2 Gq Dv Lw Fz
open Gd hiding EvA EvF EvN EvO EvP EvR EvT EvV
section
variable {n : Nat} {D g o : List Int} {p q x : Int}
structure HoldersOk (n : Nat) (xs : List Int) : Prop where
  ne : xs ≠ []
  nd : xs.Nodup
  rng : ∀ x ∈ xs, -1 ≤ x ∧ x < n
  no : (-1 : Int) ∉ xs.dropLast
structure ToldOk (n : Nat) (ts : List (Int × List Int)) : Prop where
  asc : (ts.map (·.1)).Pairwise (· < ·)
  ppl : ∀ t ∈ ts, 0 ≤ t.1 ∧ t.1 < n
  hol : ∀ t ∈ ts, HoldersOk n t.2
end
end Sa
set_option Elab.async false
set_option linter.all false
set_option maxRecDepth 100000
set_option maxHeartbeats 1000000
namespace Sa
open PySem PySem.Spec L2 Gq Dv Lw Fz
open Gd hiding EvA EvF EvN EvO EvP EvR EvT EvV
structure Bd (q : Rat) : Prop where
  num : q.num.natAbs < 2 ^ 190
  den : q.den < 2 ^ 190
theorem Bd.pos {q : Rat} : 0 < q.den := q.den_pos
structure Bq (N M : Nat) (q : Rat) : Prop where
  den : q.den ∣ N
  abs : q.num.natAbs ≤ M * q.den
theorem Bq.add {N M M' : Nat} {a b : Rat} (ha : Bq N M a) (hb : Bq N M' b) : Bq N (M + M') (a + b) := by
  have hd : (a + b).den ∣ Nat.lcm a.den b.den := by
    rw [Rat.add_def', Rat.den_mkRat, if_neg (Nat.ne_of_gt (Nat.mul_pos a.den_pos b.den_pos))]
    have gd : Nat.gcd a.den b.den ∣ Nat.gcd (a.den * b.den) (a.num * b.den + b.num * a.den).natAbs := by
      refine Nat.dvd_gcd (Nat.dvd_trans (Nat.gcd_dvd_left _ _) (Nat.dvd_mul_right _ _)) ?_
      have h1 : ((Nat.gcd a.den b.den : Nat) : Int) ∣ a.num * b.den := Int.dvd_mul_of_dvd_right (Int.ofNat_dvd.mpr (Nat.gcd_dvd_right _ _))
      have h2 : ((Nat.gcd a.den b.den : Nat) : Int) ∣ b.num * a.den := Int.dvd_mul_of_dvd_right (Int.ofNat_dvd.mpr (Nat.gcd_dvd_left _ _))
      exact Int.ofNat_dvd_left.mp (Int.dvd_add h1 h2)
    unfold Nat.lcm
    obtain ⟨c, hc⟩ := gd
    have g0 : 0 < Nat.gcd a.den b.den := Nat.gcd_pos_of_pos_left _ a.den_pos
    have dv := Nat.gcd_dvd_left (a.den * b.den) (a.num * b.den + b.num * a.den).natAbs
    rw [hc] at dv ⊢
    obtain ⟨e, he⟩ := dv
    have c0 : 0 < c := Nat.pos_of_ne_zero fun z => by
      subst z
      have := Nat.mul_pos a.den_pos b.den_pos
      rw [he] at this; simp at this
    rw [he, Nat.mul_div_cancel_left _ (Nat.mul_pos g0 c0), Nat.mul_assoc, Nat.mul_div_cancel_left _ g0]
    exact Nat.dvd_mul_left _ _
  refine ⟨Nat.dvd_trans hd (Nat.lcm_dvd ha.den hb.den), ?_⟩
  have e : (a + b).num * (a.den * b.den : Nat) = (a.num * b.den + b.num * a.den) * (a + b).den := by
    have h := Rat.mkRat_self (a + b)
    have h2 := Rat.add_def' a b
    rw [← h] at h2
    exact (Rat.mkRat_eq_iff (Rat.den_nz _) (Nat.ne_of_gt (Nat.mul_pos a.den_pos b.den_pos))).mp h2
  have e2 : (a + b).num.natAbs * (a.den * b.den) = (a.num * b.den + b.num * a.den).natAbs * (a + b).den := by
    have := congrArg Int.natAbs e
    rwa [Int.natAbs_mul, Int.natAbs_mul, Int.natAbs_natCast, Int.natAbs_natCast] at this
  have e3 : (a.num * b.den + b.num * a.den).natAbs ≤ (M + M') * (a.den * b.den) := by
    refine Nat.le_trans (Int.natAbs_add_le _ _) ?_
    rw [Int.natAbs_mul, Int.natAbs_mul, Int.natAbs_natCast, Int.natAbs_natCast]
    have h1 := Nat.mul_le_mul_right b.den ha.abs
    have h2 := Nat.mul_le_mul_right a.den hb.abs
    calc a.num.natAbs * b.den + b.num.natAbs * a.den ≤ M * a.den * b.den + M' * b.den * a.den := Nat.add_le_add h1 h2
      _ = (M + M') * (a.den * b.den) := by rw [Nat.add_mul, Nat.mul_assoc, Nat.mul_assoc, Nat.mul_comm b.den a.den]
  have p : 0 < a.den * b.den := Nat.mul_pos a.den_pos b.den_pos
  refine Nat.le_of_mul_le_mul_right ?_ p
  rw [e2]
  calc (a.num * b.den + b.num * a.den).natAbs * (a + b).den ≤ (M + M') * (a.den * b.den) * (a + b).den := Nat.mul_le_mul_right _ e3
    _ = (M + M') * (a + b).den * (a.den * b.den) := by simp only [Nat.mul_assoc, Nat.mul_comm, Nat.mul_left_comm]
theorem Bq.zero {N M : Nat} : Bq N M 0 := ⟨Nat.one_dvd _, Nat.zero_le _⟩
theorem Bq.sum {N M : Nat} : ∀ {qs : List Rat}, (∀ q ∈ qs, Bq N M q) → Bq N (qs.length * M) qs.sum
  | [], _ => by rw [List.sum_nil]; exact .zero
  | q :: qs, h => by
    rw [List.sum_cons, List.length_cons, Nat.add_mul, Nat.one_mul, Nat.add_comm]
    exact Bq.add (h q (by simp)) (Bq.sum fun x hx => h x (List.mem_cons_of_mem _ hx))
theorem Bq.up {N M M' : Nat} {q : Rat} (h : Bq N M q) (hM : M ≤ M') : Bq N M' q := ⟨h.den, Nat.le_trans h.abs (Nat.mul_le_mul_right _ hM)⟩
theorem Bq.of {N M : Nat} {t : Int} {b : Nat} (hb : 0 < b) (hd : b ∣ N) (ht : t.natAbs ≤ M * b) : Bq N M (mkRat t b) := by
  have hb' : b ≠ 0 := by omega
  have g0 : 0 < Nat.gcd b t.natAbs := Nat.gcd_pos_of_pos_left _ hb
  obtain ⟨c, hc⟩ := Nat.gcd_dvd_left b t.natAbs
  obtain ⟨e, he⟩ := Nat.gcd_dvd_right b t.natAbs
  refine ⟨?_, ?_⟩
  · rw [Rat.den_mkRat, if_neg hb']
    exact Nat.dvd_trans (Nat.div_dvd_of_dvd (Nat.gcd_dvd_left _ _)) hd
  · rw [Rat.den_mkRat, Rat.num_mkRat, if_neg hb', if_neg hb']
    have h1 : (t / ((Nat.gcd b t.natAbs : Nat) : Int)).natAbs = t.natAbs / Nat.gcd b t.natAbs := Int.natAbs_ediv_of_dvd (Int.ofNat_dvd_left.mpr (Nat.gcd_dvd_right _ _))
    rw [h1]
    generalize Nat.gcd b t.natAbs = g at *
    have q1 : t.natAbs / g = e := by rw [he, Nat.mul_div_cancel_left _ g0]
    have q2 : b / g = c := by rw [hc, Nat.mul_div_cancel_left _ g0]
    rw [q1, q2]
    rw [he, hc] at ht
    refine Nat.le_of_mul_le_mul_left ?_ g0
    calc g * e ≤ M * (g * c) := ht
      _ = g * (M * c) := Nat.mul_left_comm _ _ _
end Sa
set_option Elab.async false
set_option linter.all false
set_option maxRecDepth 100000
set_option maxHeartbeats 1000000
namespace Sa
open PySem PySem.Spec L2 Gq Dv Lw Fz
open Gd hiding EvA EvF EvN EvO EvP EvR EvT EvV
end Sa
set_option Elab.async false
set_option linter.all false
set_option maxRecDepth 100000
set_option maxHeartbeats 1000000
namespace Sa
open PySem PySem.Spec PyProof.Rows L2 Gq Dv Lw Fz
open Gd hiding EvA EvF EvN EvO EvP EvR EvT EvV
end Sa
set_option Elab.async false
set_option linter.all false
set_option maxRecDepth 100000
set_option maxHeartbeats 1000000
namespace Sa
open PySem PySem.Spec L2 Gq Dv Lw Fz
open Gd hiding EvA EvF EvN EvO EvP EvR EvT EvV
structure Rw (S s : List Int) : Prop where
  nd : s.Nodup
  mem : ∀ y, y ∈ s ↔ y ∈ S
theorem Rw.len {S s t : List Int} (h1 : Rw S s) (h2 : Rw S t) : s.length = t.length :=
  Nat.le_antisymm (nd_sub h1.nd fun x hx => (h2.mem x).mpr ((h1.mem x).mp hx)) (nd_sub h2.nd fun x hx => (h1.mem x).mpr ((h2.mem x).mp hx))
section
variable {S s t o : List Int} {x y : Int} {n : Nat}
def rr (o : List Int) : List Int → Option Int → List Int
  | [], _ => []
  | x :: c, none => x :: rr o c (some x)
  | x :: c, some z => if o.idxOf z < o.idxOf x then x :: rr o c (some x) else rr o c (some z)
end
end Sa
set_option Elab.async false
set_option linter.all false
set_option maxRecDepth 100000
set_option maxHeartbeats 1000000
namespace Sa
open PySem PySem.Spec L2 Gq Dv Lw Fz
open Gd hiding EvA EvF EvN EvO EvP EvR EvT EvV
section
variable {n k : Nat} {D g o S R : List Int} {p q x : Int}
def pf (ps : List Int) (i : Nat) : Nat := if (i : Int) ∈ ps then 1 else i
end
end Sa
set_option Elab.async false
set_option linter.all false
set_option maxRecDepth 100000
set_option maxHeartbeats 4000000
namespace Sa
open PySem PySem.Spec PyProof.Rows L2 Gq Dv Lw Fz
open Gd hiding EvA EvF EvN EvO EvP EvR EvT EvV
end Sa
set_option Elab.async false
set_option linter.all false
set_option maxRecDepth 100000
set_option maxHeartbeats 4000000
namespace Sa
open PySem PySem.Spec PyProof.Rows L2 Gq Dv Lw Fz
open Gd hiding EvA EvF EvN EvO EvP EvR EvT EvV
section
variable {n k : Nat} {D E F g : List Int} {p q x c : Int}
structure WantOk (n : Nat) (W : List (Int × Int)) : Prop where
  asc : (W.map (·.1)).Pairwise (· < ·)
  ppl : ∀ t ∈ W, 0 ≤ t.1 ∧ t.1 < n
  hol : ∀ t ∈ W, -1 ≤ t.2 ∧ t.2 < n
end
end Sa
set_option Elab.async false
set_option linter.all false
set_option maxRecDepth 100000
set_option maxHeartbeats 4000000
namespace Sa
open PySem PySem.Spec PyProof.Rows L2 Gq Dv Lw Fz
open Gd hiding EvA EvF EvN EvO EvP EvR EvT EvV
section
variable {n k : Nat} {D E F g : List Int} {p q x c m : Int}
def lc (n : Nat) (E : List Int) : Int := (miD none (ls ((rg n).map fun p => (((ch E p).length : Nat) : Int)))).getD 0
end
end Sa
set_option Elab.async false
set_option linter.all false
set_option maxRecDepth 100000
set_option maxHeartbeats 4000000
namespace Pv
open PySem PySem.Spec PyProof.Rows L2 Gq Dv
def top (i : Nat) : Stmt := PySem.Challenge.pw_firstthere_k80_across_all_namings.main.body.getD i (.Pass ⟨0, 0, 0, 0⟩)
structure Txt (K : PySem.W.Frag) (mg : Str → Option Value) : Prop where
  c_MOST_COUNTED : ∃ t, mg "MOST_COUNTED" = some (.int (60) t)
  c_MOST_PEOPLE : ∃ t, mg "MOST_PEOPLE" = some (.int (6) t)
  c_NONE_AT_ALL : ∃ a, mg "NONE_AT_ALL" = some (.ref a) ∧ KTup K a [0, 1]
  c_OFFICE : ∃ t, mg "OFFICE" = some (.int (-1) t)
  c_SURE : ∃ a, mg "SURE" = some (.ref a) ∧ KTup K a [1, 1]
  g_abs : mg "abs" = none
  g_all : mg "all" = none
  g_bool : mg "bool" = none
  m_comb : mg "comb" = some (.builtin "math.comb")
  m_combinations : mg "combinations" = some (.type "itertools.combinations")
  m_gcd : mg "gcd" = some (.builtin "math.gcd")
  g_int : mg "int" = none
  g_isinstance : mg "isinstance" = none
  g_len : mg "len" = none
  g_list : mg "list" = none
  g_min : mg "min" = none
  m_perm : mg "perm" = some (.builtin "math.perm")
  g_range : mg "range" = none
  g_set : mg "set" = none
  g_sorted : mg "sorted" = none
  g_sum : mg "sum" = none
  g_tuple : mg "tuple" = none
theorem bo_abs : bootBuiltins "abs" = some (.builtin "abs") := by decide +kernel
theorem bo_all : bootBuiltins "all" = some (.builtin "all") := by decide +kernel
theorem bo_bool : bootBuiltins "bool" = some (.type "bool") := by decide +kernel
theorem bo_int : bootBuiltins "int" = some (.type "int") := by decide +kernel
theorem bo_len : bootBuiltins "len" = some (.builtin "len") := by decide +kernel
theorem bo_list : bootBuiltins "list" = some (.type "list") := by decide +kernel
theorem bo_min : bootBuiltins "min" = some (.builtin "min") := by decide +kernel
theorem bo_sorted : bootBuiltins "sorted" = some (.builtin "sorted") := by decide +kernel
theorem bo_sum : bootBuiltins "sum" = some (.builtin "sum") := by decide +kernel
theorem bo_tuple : bootBuiltins "tuple" = some (.type "tuple") := by decide +kernel
section
variable {P : Program} {w : World} {K : PySem.W.Frag} {mg : Str → Option Value} {base : Heap} {T : List Addr}
abbrev s__law_taken : Stmt := top 61
theorem sc__law_taken : FnScope ["row", "many", "found", "cell"] ["row", "many"] (defScope s__law_taken) := ⟨rfl, rfl, rfl, by decide +kernel, rfl, by decide +kernel, by decide +kernel⟩
def c__law_taken : Es :=
  (cSeq (cIf (fTst (fBin (hB iGt) (fBin hIx (fLoc 0) (fCst (.int 3))) (fCst (.int 0)))) (cSeq (cAsg 2 (fBin (hI iMod) (fUn hInt (fBin hIx (fLoc 0) (fCst (.int 3)))) (fLoc 1)))
  (cSeq (cSetIx 0 (fBin (hI iDiv) (fBin hIx (fLoc 0) (fCst (.int 3))) (fLoc 1)) (fCst (.int 3)))
  (cRet (fLoc 2)))) cNil)
  (cSeq (cSetIx 0 (fBin hAdd (fBin hIx (fLoc 0) (fCst (.int 1))) (fCst (.int 1))) (fCst (.int 1)))
  (cSeq (cIf (fTst (fBin (hB iGt) (fBin hIx (fLoc 0) (fCst (.int 1))) (fUn hLen (fBin hIx (fLoc 0) (fCst (.int 0)))))) (cSeq (cSetIx 0 (fBin (hI iMod) (fUn hInt (fBin hAdd (fBin (hI iMul) (fBin hIx (fLoc 0) (fCst (.int 2))) (fCst (.int 48271))) (fCst (.int 11)))) (fCst (.int 2147483647))) (fCst (.int 2)))
  (cRet (fBin (hI iMod) (fUn hInt (fBin (hI iDiv) (fBin hIx (fLoc 0) (fCst (.int 2))) (fCst (.int 7)))) (fLoc 1)))) cNil)
  (cSeq (cAsg 3 (fBin hIx (fBin hIx (fLoc 0) (fCst (.int 0))) (fBin (hI iSub) (fBin hIx (fLoc 0) (fCst (.int 1))) (fCst (.int 1)))))
  (cSeq (cSetIx 0 (fBin (hI iMod) (fUn hInt (fBin hAdd (fBin hAdd (fBin (hI iMul) (fBin hIx (fLoc 0) (fCst (.int 2))) (fCst (.int 48271))) (fLoc 3)) (fCst (.int 11)))) (fCst (.int 2147483647))) (fCst (.int 2)))
  (cSeq (cIf (fTst (fBin (hB iGe) (fLoc 3) (fBin (hI iPow) (fCst (.int 10)) (fCst (.int 18))))) (cSetIx 0 (fBin (hI iDiv) (fLoc 3) (fLoc 1)) (fCst (.int 3))) cNil)
  (cRet (fBin (hI iMod) (fUn hInt (fLoc 3)) (fLoc 1)))))))))
def F__law_taken : Fn1 := run1 2 4 c__law_taken
theorem b__law_taken {f c : Addr} (G : Txt K mg) : BodyOk P w K mg base T 0 "_law_taken" s__law_taken f c ["row", "many", "found", "cell"] (c__law_taken) := by
  intro A outer s H E hr
  exact (ss_cons (ss_if (st_cmp op_gt b_gt (s_ix o_ix b_ix (s_loc 0) s_int) s_int) (ss_cons (ss_set (i := 2) sc__law_taken.nd (s_op op_mod b_mod (s_callTy1 call_int1 u_int (by rfl) G.g_int bo_int (s_ix o_ix b_ix (s_loc 0) s_int)) (s_loc 1)))
      (ss_cons (ss_setIx 0 (s_op op_fdivW b_div (s_ix o_ix b_ix (s_loc 0) s_int) (s_loc 1)) s_int)
      (ss_one (ss_ret (s_loc 2))))) ss_nil)
      (ss_cons (ss_setIx 0 (s_op o_add b_add (s_ix o_ix b_ix (s_loc 0) s_int) s_int) s_int)
      (ss_cons (ss_if (st_cmp op_gt b_gt (s_ix o_ix b_ix (s_loc 0) s_int) (s_callB1 call_len_seq u_len (by rfl) G.g_len bo_len (s_ix o_ix b_ix (s_loc 0) s_int))) (ss_cons (ss_setIx 0 (s_op op_mod b_mod (s_callTy1 call_int1 u_int (by rfl) G.g_int bo_int (s_op o_add b_add (s_op op_mulW b_mul (s_ix o_ix b_ix (s_loc 0) s_int) s_int) s_int)) s_int) s_int)
      (ss_one (ss_ret (s_op op_mod b_mod (s_callTy1 call_int1 u_int (by rfl) G.g_int bo_int (s_op op_fdivW b_div (s_ix o_ix b_ix (s_loc 0) s_int) s_int)) (s_loc 1))))) ss_nil)
      (ss_cons (ss_set (i := 3) sc__law_taken.nd (s_ix o_ix b_ix (s_ix o_ix b_ix (s_loc 0) s_int) (s_op op_sub b_sub (s_ix o_ix b_ix (s_loc 0) s_int) s_int)))
      (ss_cons (ss_setIx 0 (s_op op_mod b_mod (s_callTy1 call_int1 u_int (by rfl) G.g_int bo_int (s_op o_add b_add (s_op o_add b_add (s_op op_mulW b_mul (s_ix o_ix b_ix (s_loc 0) s_int) s_int) (s_loc 3)) s_int)) s_int) s_int)
      (ss_cons (ss_if (st_cmp op_ge b_ge (s_loc 3) (s_op op_pow b_pow s_int s_int)) (ss_one (ss_setIx 0 (s_op op_fdivW b_div (s_loc 3) (s_loc 1)) s_int)) ss_nil)
      (ss_one (ss_ret (s_op op_mod b_mod (s_callTy1 call_int1 u_int (by rfl) G.g_int bo_int (s_loc 3)) (s_loc 1))))))))))
abbrev s__law_pick : Stmt := top 62
theorem sc__law_pick : FnScope ["row", "things"] ["row", "things"] (defScope s__law_pick) := ⟨rfl, rfl, rfl, by decide +kernel, rfl, by decide +kernel, by decide +kernel⟩
def c__law_pick : Es :=
  (cRet (fBin hIx (fLoc 1) (fCall1 F__law_taken 0 (aCons (fUn hLen (fLoc 1)) aNil))))
def F__law_pick : Fn1 := run1 2 2 c__law_pick
theorem b__law_pick {f c : Addr} (G : Txt K mg) (C__law_taken : Cal P w K mg base 1 "_law_taken" ["row", "many"] (sp1 K T F__law_taken)) : BodyOk P w K mg base T 1 "_law_pick" s__law_pick f c ["row", "things"] (c__law_pick) := by
  intro A outer s H E hr
  exact (ss_one (ss_ret (s_ix o_ix b_ix (s_loc 1) (s_cal1 0 C__law_taken hr (sa_cons (s_callB1 call_len_seq u_len (by rfl) G.g_len bo_len (s_loc 1)) sa_nil)))))
abbrev s__law_every : Stmt := top 79
theorem sc__law_every : FnScope ["size", "found", "person", "more", "some", "one"] ["size"] (defScope s__law_every) := ⟨rfl, rfl, rfl, by decide +kernel, rfl, by decide +kernel, by decide +kernel⟩
def c__law_every : Es :=
  (cSeq (cAsg 1 (fLst (aCons (fTup aNil) aNil)))
  (cSeq (cFor (iRng1 (aCons (fLoc 0) aNil)) (stNm 2) (cSeq (cAsg 3 (fLst aNil))
  (cSeq (cFor (iSeq (fLoc 1)) (stNm 4) (cAsg 3 (fBin hAdd (fLoc 3) (fComp [5] (iRng2 (aCons (fUn hNeg (fCst (.int 1))) (aCons (fLoc 0) aNil))) (stNm 5) (fTst (fBin (hEq true) (fLoc 5) (fLoc 2))) (fBin hAdd (fLoc 4) (fTup (aCons (fLoc 5) aNil)))))))
  (cAsg 1 (fVal (fLoc 3))))))
  (cRet (fLoc 1))))
def F__law_every : Fn0 := run0 1 6 c__law_every
theorem b__law_every {f c : Addr} (G : Txt K mg) : BodyOk P w K mg base T 0 "_law_every" s__law_every f c ["size", "found", "person", "more", "some", "one"] (c__law_every) := by
  intro A outer s H E hr
  exact (ss_cons (ss_set (i := 1) sc__law_every.nd (s_lst (sa_cons (s_tup sa_nil) sa_nil)))
      (ss_cons (ss_for PassesOwn.never rfl (si_range1 (by rfl) G.g_range (sa_cons (s_loc 0) sa_nil)) (pg_name (i := 2) sc__law_every.nd rfl (by first | exact Or.inl rfl | exact Or.inr rfl)) (g_nm 2) (ss_cons (ss_set (i := 3) sc__law_every.nd (s_lst sa_nil))
      (ss_cons (ss_for PassesOwn.never rfl (si_seq (s_loc 1)) (pg_name (i := 4) sc__law_every.nd rfl (by first | exact Or.inl rfl | exact Or.inr rfl)) (g_nm 4) (ss_one (ss_set (i := 3) sc__law_every.nd (s_op o_add b_add (s_loc 3) (s_comp rfl sc__law_every.nd (si_range2 (by rfl) G.g_range (sa_cons (s_neg s_int) (sa_cons (s_loc 0) sa_nil))) (own := [("one", 5)]) (blk_of (by rfl)) (g_nm 5) (by decide) (fun _ _ _ _ _ => (pg_name (i := 5) sc__law_every.nd rfl (by first | exact Or.inl rfl | exact Or.inr rfl))) (fun _ _ _ _ _ => (sts_one (st_cmp (op_neD (hu4 hr)) b_ne (s_loc 5) (s_loc 2)))) (fun _ _ _ _ _ => (s_op o_add b_add (s_loc 4) (s_tup (sa_cons (s_loc 5) sa_nil)))))))))
      (ss_one (ss_set (i := 1) sc__law_every.nd (s_val (s_loc 3)))))))
      (ss_one (ss_ret (s_loc 1)))))
abbrev s__law_ratio : Stmt := top 64
theorem sc__law_ratio : FnScope ["top", "bottom", "one", "other"] ["top", "bottom"] (defScope s__law_ratio) := ⟨rfl, rfl, rfl, by decide +kernel, rfl, by decide +kernel, by decide +kernel⟩
def c__law_ratio : Es :=
  (cSeq (cParR [2, 3] (rCons (fApp (a1 iAbs) (aCons (fLoc 0) aNil)) (rCons (fApp (a1 iAbs) (aCons (fLoc 1) aNil)) rNil)))
  (cSeq (whl (fTst (fBin (hEq true) (fLoc 3) (fCst (.int 0)))) (cParR [2, 3] (rCons (fLoc 3) (rCons (fBin (hI iMod) (fUn hInt (fLoc 2)) (fLoc 3)) rNil))) 1000)
  (cRet (fIte (fTst (fBin (hB iGt) (fLoc 1) (fCst (.int 0)))) (fTup (aCons (fBin (hI iDiv) (fLoc 0) (fLoc 2)) (aCons (fBin (hI iDiv) (fLoc 1) (fLoc 2)) aNil))) (fTup (aCons (fBin (hI iSub) (fCst (.int 0)) (fBin (hI iDiv) (fLoc 0) (fLoc 2))) (aCons (fBin (hI iSub) (fCst (.int 0)) (fBin (hI iDiv) (fLoc 1) (fLoc 2))) aNil)))))))
def F__law_ratio : Fn0 := run0 2 4 c__law_ratio
theorem b__law_ratio {f c : Addr} (G : Txt K mg) : BodyOk P w K mg base T 0 "_law_ratio" s__law_ratio f c ["top", "bottom", "one", "other"] (c__law_ratio) := by
  intro A outer s H E hr
  exact (ss_cons (ss_parR2 (i := 2) (j := 3) rfl sc__law_ratio.nd (sr_cons (s_appB call_abs a_abs (by rfl) G.g_abs bo_abs (sa_cons (s_loc 0) sa_nil)) (sr_cons (s_appB call_abs a_abs (by rfl) G.g_abs bo_abs (sa_cons (s_loc 1) sa_nil)) sr_nil)))
      (ss_cons (ss_while 1000 PassesOwn.never (st_cmp (op_neD (hu4 hr)) b_ne (s_loc 3) s_int) (ss_one (ss_parR2 (i := 2) (j := 3) rfl sc__law_ratio.nd (sr_cons (s_loc 3) (sr_cons (s_op op_mod b_mod (s_callTy1 call_int1 u_int (by rfl) G.g_int bo_int (s_loc 2)) (s_loc 3)) sr_nil)))))
      (ss_one (ss_ret (s_ite (st_cmp op_gt b_gt (s_loc 1) s_int) (s_tup (sa_cons (s_op op_fdivW b_div (s_loc 0) (s_loc 2)) (sa_cons (s_op op_fdivW b_div (s_loc 1) (s_loc 2)) sa_nil))) (s_tup (sa_cons (s_op op_sub b_sub s_int (s_op op_fdivW b_div (s_loc 0) (s_loc 2))) (sa_cons (s_op op_sub b_sub s_int (s_op op_fdivW b_div (s_loc 1) (s_loc 2))) sa_nil))))))))
abbrev s__law_plus : Stmt := top 65
theorem sc__law_plus : FnScope ["one", "other"] ["one", "other"] (defScope s__law_plus) := ⟨rfl, rfl, rfl, by decide +kernel, rfl, by decide +kernel, by decide +kernel⟩
def c__law_plus : Es :=
  (cRet (fCall0 F__law_ratio (aCons (fBin hAdd (fBin (hI iMul) (fBin hIx (fLoc 0) (fCst (.int 0))) (fBin hIx (fLoc 1) (fCst (.int 1)))) (fBin (hI iMul) (fBin hIx (fLoc 1) (fCst (.int 0))) (fBin hIx (fLoc 0) (fCst (.int 1))))) (aCons (fBin (hI iMul) (fBin hIx (fLoc 0) (fCst (.int 1))) (fBin hIx (fLoc 1) (fCst (.int 1)))) aNil))))
def F__law_plus : Fn0 := run0 2 2 c__law_plus
theorem b__law_plus {f c : Addr} (G : Txt K mg) (C__law_ratio : Cal P w K mg base 1 "_law_ratio" ["top", "bottom"] (sp0 K T F__law_ratio)) : BodyOk P w K mg base T 1 "_law_plus" s__law_plus f c ["one", "other"] (c__law_plus) := by
  intro A outer s H E hr
  exact (ss_one (ss_ret (s_cal0 C__law_ratio hr (sa_cons (s_op o_add b_add (s_op op_mulW b_mul (s_ix o_ix b_ix (s_loc 0) s_int) (s_ix o_ix b_ix (s_loc 1) s_int)) (s_op op_mulW b_mul (s_ix o_ix b_ix (s_loc 1) s_int) (s_ix o_ix b_ix (s_loc 0) s_int))) (sa_cons (s_op op_mulW b_mul (s_ix o_ix b_ix (s_loc 0) s_int) (s_ix o_ix b_ix (s_loc 1) s_int)) sa_nil)))))
abbrev s_is_plain_integer : Stmt := top 11
theorem sc_is_plain_integer : FnScope ["value"] ["value"] (defScope s_is_plain_integer) := ⟨rfl, rfl, rfl, by decide +kernel, rfl, by decide +kernel, by decide +kernel⟩
def c_is_plain_integer : Es :=
  (cRet (fAnd (fIsi "int" (fLoc 0)) (fNot (fIsi "bool" (fLoc 0)))))
def F_is_plain_integer : Fn0 := run0 1 1 c_is_plain_integer
theorem b_is_plain_integer {f c : Addr} (G : Txt K mg) : BodyOk P w K mg base T 0 "is_plain_integer" s_is_plain_integer f c ["value"] (c_is_plain_integer) := by
  intro A outer s H E hr
  exact (ss_one (ss_ret (s_and (s_isi (by rfl) G.g_isinstance (by rfl) G.g_int bo_int (s_loc 0)) (s_one (s_not (s_isi (by rfl) G.g_isinstance (by rfl) G.g_bool bo_bool (s_loc 0)))))))
abbrev s_is_integer_from : Stmt := top 12
theorem sc_is_integer_from : FnScope ["value", "least", "most"] ["value", "least", "most"] (defScope s_is_integer_from) := ⟨rfl, rfl, rfl, by decide +kernel, rfl, by decide +kernel, by decide +kernel⟩
def c_is_integer_from : Es :=
  (cRet (fAnd (fCall0 F_is_plain_integer (aCons (fLoc 0) aNil)) (fChain (hB iLe) (hB iLe) (fLoc 1) (fLoc 0) (fLoc 2))))
def F_is_integer_from : Fn0 := run0 3 3 c_is_integer_from
theorem b_is_integer_from {f c : Addr} (G : Txt K mg) (C_is_plain_integer : Cal P w K mg base 1 "is_plain_integer" ["value"] (sp0 K T F_is_plain_integer)) : BodyOk P w K mg base T 1 "is_integer_from" s_is_integer_from f c ["value", "least", "most"] (c_is_integer_from) := by
  intro A outer s H E hr
  exact (ss_one (ss_ret (s_and (s_cal0 C_is_plain_integer hr (sa_cons (s_loc 0) sa_nil)) (s_one (s_chain op_le b_le op_le b_le (s_loc 1) (s_loc 0) (s_loc 2))))))
abbrev s_check_count : Stmt := top 20
theorem sc_check_count : FnScope ["value", "least", "most"] ["value", "least", "most"] (defScope s_check_count) := ⟨rfl, rfl, rfl, by decide +kernel, rfl, by decide +kernel, by decide +kernel⟩
def c_check_count : Es :=
  (cIf (gNot (fTst (fCall0 F_is_integer_from (aCons (fLoc 0) (aCons (fLoc 1) (aCons (fLoc 2) aNil)))))) cNever cNil)
def F_check_count : Fn0 := run0 3 3 c_check_count
theorem b_check_count {f c : Addr} (G : Txt K mg) (C_is_integer_from : Cal P w K mg base 2 "is_integer_from" ["value", "least", "most"] (sp0 K T F_is_integer_from)) : BodyOk P w K mg base T 2 "check_count" s_check_count f c ["value", "least", "most"] (c_check_count) := by
  intro A outer s H E hr
  exact (ss_one (ss_if (st_not (st_val (s_cal0 C_is_integer_from hr (sa_cons (s_loc 0) (sa_cons (s_loc 1) (sa_cons (s_loc 2) sa_nil)))))) (ss_one ss_never) ss_nil))
abbrev s_power_of : Stmt := top 27
theorem sc_power_of : FnScope ["base", "times", "found", "_"] ["base", "times"] (defScope s_power_of) := ⟨rfl, rfl, rfl, by decide +kernel, rfl, by decide +kernel, by decide +kernel⟩
def c_power_of : Es :=
  (cSeq (cAsg 2 (fCst (.int 1)))
  (cSeq (cFor (iRng1 (aCons (fLoc 1) aNil)) (stNm 3) (cAsg 2 (fBin (hI iMul) (fLoc 2) (fLoc 0))))
  (cRet (fLoc 2))))
def F_power_of : Fn0 := run0 2 4 c_power_of
theorem b_power_of {f c : Addr} (G : Txt K mg) : BodyOk P w K mg base T 0 "power_of" s_power_of f c ["base", "times", "found", "_"] (c_power_of) := by
  intro A outer s H E hr
  exact (ss_cons (ss_set (i := 2) sc_power_of.nd s_int)
      (ss_cons (ss_for PassesOwn.never rfl (si_range1 (by rfl) G.g_range (sa_cons (s_loc 1) sa_nil)) (pg_name (i := 3) sc_power_of.nd rfl (by first | exact Or.inl rfl | exact Or.inr rfl)) (g_nm 3) (ss_one (ss_set (i := 2) sc_power_of.nd (s_op op_mulW b_mul (s_loc 2) (s_loc 0)))))
      (ss_one (ss_ret (s_loc 2)))))
abbrev s_naming_count_of : Stmt := top 28
theorem sc_naming_count_of : FnScope ["size"] ["size"] (defScope s_naming_count_of) := ⟨rfl, rfl, rfl, by decide +kernel, rfl, by decide +kernel, by decide +kernel⟩
def c_naming_count_of : Es :=
  (cRet (fCall0 F_power_of (aCons (fLoc 0) (aCons (fLoc 0) aNil))))
def F_naming_count_of : Fn0 := run0 1 1 c_naming_count_of
theorem b_naming_count_of {f c : Addr} (G : Txt K mg) (C_power_of : Cal P w K mg base 1 "power_of" ["base", "times"] (sp0 K T F_power_of)) : BodyOk P w K mg base T 1 "naming_count_of" s_naming_count_of f c ["size"] (c_naming_count_of) := by
  intro A outer s H E hr
  exact (ss_one (ss_ret (s_cal0 C_power_of hr (sa_cons (s_loc 0) (sa_cons (s_loc 0) sa_nil)))))
abbrev s_ratio : Stmt := top 24
theorem sc_ratio : FnScope ["top", "bottom", "common"] ["top", "bottom"] (defScope s_ratio) := ⟨rfl, rfl, rfl, by decide +kernel, rfl, by decide +kernel, by decide +kernel⟩
def c_ratio : Es :=
  (cSeq (cAsg 2 (fApp (a2 iGcd) (aCons (fLoc 0) (aCons (fLoc 1) aNil))))
  (cRet (fTup (aCons (fBin (hI iDiv) (fLoc 0) (fLoc 2)) (aCons (fBin (hI iDiv) (fLoc 1) (fLoc 2)) aNil)))))
def F_ratio : Fn0 := run0 2 3 c_ratio
theorem b_ratio {f c : Addr} (G : Txt K mg) : BodyOk P w K mg base T 0 "ratio" s_ratio f c ["top", "bottom", "common"] (c_ratio) := by
  intro A outer s H E hr
  exact (ss_cons (ss_set (i := 2) sc_ratio.nd (s_appM cr_gcd a_gcd (by rfl) G.m_gcd (sa_cons (s_loc 0) (sa_cons (s_loc 1) sa_nil))))
      (ss_one (ss_ret (s_tup (sa_cons (s_op op_fdivW b_div (s_loc 0) (s_loc 2)) (sa_cons (s_op op_fdivW b_div (s_loc 1) (s_loc 2)) sa_nil))))))
abbrev s_chain_total_of : Stmt := top 29
theorem sc_chain_total_of : FnScope ["size", "length"] ["size", "length"] (defScope s_chain_total_of) := ⟨rfl, rfl, rfl, by decide +kernel, rfl, by decide +kernel, by decide +kernel⟩
def c_chain_total_of : Es :=
  (cRet (fBin (hI iMul) (fBin (hI iMul) (fApp (a2 iPerm) (aCons (fLoc 0) (aCons (fLoc 1) aNil))) (fLoc 1)) (fCall0 F_power_of (aCons (fLoc 0) (aCons (fBin (hI iSub) (fLoc 0) (fLoc 1)) aNil)))))
def F_chain_total_of : Fn0 := run0 2 2 c_chain_total_of
theorem b_chain_total_of {f c : Addr} (G : Txt K mg) (C_power_of : Cal P w K mg base 1 "power_of" ["base", "times"] (sp0 K T F_power_of)) : BodyOk P w K mg base T 1 "chain_total_of" s_chain_total_of f c ["size", "length"] (c_chain_total_of) := by
  intro A outer s H E hr
  exact (ss_one (ss_ret (s_op op_mulW b_mul (s_op op_mulW b_mul (s_appM cr_perm a_i2 (by rfl) G.m_perm (sa_cons (s_loc 0) (sa_cons (s_loc 1) sa_nil))) (s_loc 1)) (s_cal0 C_power_of hr (sa_cons (s_loc 0) (sa_cons (s_op op_sub b_sub (s_loc 0) (s_loc 1)) sa_nil))))))
abbrev s_length_chances : Stmt := top 36
theorem sc_length_chances : FnScope ["size", "chains"] ["size"] (defScope s_length_chances) := ⟨rfl, rfl, rfl, by decide +kernel, rfl, by decide +kernel, by decide +kernel⟩
def c_length_chances : Es :=
  (cSeq (cExp (fCall0 F_check_count (aCons (fLoc 0) (aCons (fCst (.int 1)) (aCons (fCst (.int (60))) aNil)))))
  (cSeq (cAsg 1 (fBin (hI iMul) (fLoc 0) (fCall0 F_naming_count_of (aCons (fLoc 0) aNil))))
  (cRet (fTupG 1 (iRng2 (aCons (fCst (.int 1)) (aCons (fBin hAdd (fLoc 0) (fCst (.int 1))) aNil))) (stNm 2) gYes (fCall0 F_ratio (aCons (fCall0 F_chain_total_of (aCons (fLoc 0) (aCons (fLoc 2) aNil))) (aCons (fLoc 1) aNil)))))))
def F_length_chances : Fn0 := run0 1 2 c_length_chances
theorem b_length_chances {f c : Addr} (G : Txt K mg) (C_check_count : Cal P w K mg base 3 "check_count" ["value", "least", "most"] (sp0 K T F_check_count)) (C_naming_count_of : Cal P w K mg base 2 "naming_count_of" ["size"] (sp0 K T F_naming_count_of)) (C_ratio : Cal P w K mg base 1 "ratio" ["top", "bottom"] (sp0 K T F_ratio)) (C_chain_total_of : Cal P w K mg base 2 "chain_total_of" ["size", "length"] (sp0 K T F_chain_total_of)) {Pt : Addr} (TB : LamX.TabB base mg c Pt) (hP : Pt ∈ T) : BodyOk P w K mg base T 3 "length_chances" s_length_chances f c ["size", "chains"] (c_length_chances) := by
  intro A outer s H E hr
  exact (ss_cons (ss_expr (s_cal0 C_check_count hr (sa_cons (s_loc 0) (sa_cons s_int (sa_cons (s_glob (by rfl) G.c_MOST_COUNTED.choose_spec) sa_nil)))))
      (ss_cons (ss_set (i := 1) sc_length_chances.nd (s_op op_mulW b_mul (s_loc 0) (s_cal0 C_naming_count_of hr (sa_cons (s_loc 0) sa_nil))))
      (ss_one (ss_ret (s_tupG (k := 1) (N' := ["size", "chains", "length"]) hr (by rfl) G.g_tuple bo_tuple (.base rfl TB) hP (gsc_of (by rfl)) rfl (si_range2 (by rfl) G.g_range (sa_cons s_int (sa_cons (s_op o_add b_add (s_loc 0) s_int) sa_nil))) (g_nm 2) (by exact (by decide : ∀ i ∈ [2], 2 ≤ i)) (fun _ _ _ _ _ _ => (pg_name (i := 2) (noDup_of (by rfl)) rfl (by first | exact Or.inl rfl | exact Or.inr rfl))) (fun _ _ _ _ _ _ => sts_nil) (fun _ _ _ _ _ _ hN => (s_cal0 C_ratio (room_gen hr _) (sa_cons (s_cal0 C_chain_total_of (room_gen hr _) (sa_cons (s_loc 0) (sa_cons (s_loc 2) sa_nil))) (sa_cons (s_loc 1) sa_nil)))))))))
abbrev s_chance_of_out : Stmt := top 33
theorem sc_chance_of_out : FnScope ["size", "many", "top", "bottom", "ways", "met"] ["size", "many"] (defScope s_chance_of_out) := ⟨rfl, rfl, rfl, by decide +kernel, rfl, by decide +kernel, by decide +kernel⟩
def c_chance_of_out : Es :=
  (cSeq (cAsg 2 (fCst (.int 0)))
  (cSeq (cAsg 3 (fCst (.int 1)))
  (cSeq (cAsg 4 (fCst (.int 1)))
  (cSeq (cFor (iRng2 (aCons (fCst (.int 1)) (aCons (fBin hAdd (fLoc 1) (fCst (.int 1))) aNil))) (stNm 5) (cSeq (cAsg 2 (fBin hAdd (fBin (hI iMul) (fLoc 2) (fLoc 0)) (fBin (hI iMul) (fLoc 4) (fLoc 5))))
  (cSeq (cAsg 3 (fBin (hI iMul) (fLoc 3) (fLoc 0)))
  (cAsg 4 (fBin (hI iMul) (fLoc 4) (fBin (hI iSub) (fLoc 1) (fLoc 5)))))))
  (cRet (fTup (aCons (fLoc 2) (aCons (fLoc 3) aNil))))))))
def F_chance_of_out : Fn0 := run0 2 6 c_chance_of_out
theorem b_chance_of_out {f c : Addr} (G : Txt K mg) : BodyOk P w K mg base T 0 "chance_of_out" s_chance_of_out f c ["size", "many", "top", "bottom", "ways", "met"] (c_chance_of_out) := by
  intro A outer s H E hr
  exact (ss_cons (ss_set (i := 2) sc_chance_of_out.nd s_int)
      (ss_cons (ss_set (i := 3) sc_chance_of_out.nd s_int)
      (ss_cons (ss_set (i := 4) sc_chance_of_out.nd s_int)
      (ss_cons (ss_for PassesOwn.never rfl (si_range2 (by rfl) G.g_range (sa_cons s_int (sa_cons (s_op o_add b_add (s_loc 1) s_int) sa_nil))) (pg_name (i := 5) sc_chance_of_out.nd rfl (by first | exact Or.inl rfl | exact Or.inr rfl)) (g_nm 5) (ss_cons (ss_set (i := 2) sc_chance_of_out.nd (s_op o_add b_add (s_op op_mulW b_mul (s_loc 2) (s_loc 0)) (s_op op_mulW b_mul (s_loc 4) (s_loc 5))))
      (ss_cons (ss_set (i := 3) sc_chance_of_out.nd (s_op op_mulW b_mul (s_loc 3) (s_loc 0)))
      (ss_one (ss_set (i := 4) sc_chance_of_out.nd (s_op op_mulW b_mul (s_loc 4) (s_op op_sub b_sub (s_loc 1) (s_loc 5))))))))
      (ss_one (ss_ret (s_tup (sa_cons (s_loc 2) (sa_cons (s_loc 3) sa_nil)))))))))
abbrev s_random_out : Stmt := top 34
theorem sc_random_out : FnScope ["size", "many", "top", "bottom"] ["size", "many"] (defScope s_random_out) := ⟨rfl, rfl, rfl, by decide +kernel, rfl, by decide +kernel, by decide +kernel⟩
def c_random_out : Es :=
  (cSeq (cExp (fCall0 F_check_count (aCons (fLoc 0) (aCons (fCst (.int 1)) (aCons (fCst (.int (60))) aNil)))))
  (cSeq (cExp (fCall0 F_check_count (aCons (fLoc 1) (aCons (fCst (.int 1)) (aCons (fLoc 0) aNil)))))
  (cSeq (cUnp [2, 3] (fCall0 F_chance_of_out (aCons (fLoc 0) (aCons (fLoc 1) aNil))))
  (cRet (fCall0 F_ratio (aCons (fLoc 2) (aCons (fLoc 3) aNil)))))))
def F_random_out : Fn0 := run0 2 4 c_random_out
theorem b_random_out {f c : Addr} (G : Txt K mg) (C_check_count : Cal P w K mg base 3 "check_count" ["value", "least", "most"] (sp0 K T F_check_count)) (C_chance_of_out : Cal P w K mg base 1 "chance_of_out" ["size", "many"] (sp0 K T F_chance_of_out)) (C_ratio : Cal P w K mg base 1 "ratio" ["top", "bottom"] (sp0 K T F_ratio)) : BodyOk P w K mg base T 3 "random_out" s_random_out f c ["size", "many", "top", "bottom"] (c_random_out) := by
  intro A outer s H E hr
  exact (ss_cons (ss_expr (s_cal0 C_check_count hr (sa_cons (s_loc 0) (sa_cons s_int (sa_cons (s_glob (by rfl) G.c_MOST_COUNTED.choose_spec) sa_nil)))))
      (ss_cons (ss_expr (s_cal0 C_check_count hr (sa_cons (s_loc 1) (sa_cons s_int (sa_cons (s_loc 0) sa_nil)))))
      (ss_cons (ss_unp (is := [2, 3]) rfl (s_cal0 C_chance_of_out hr (sa_cons (s_loc 0) (sa_cons (s_loc 1) sa_nil))) (pgs_cons (pg_name (i := 2) sc_random_out.nd rfl (by first | exact Or.inl rfl | exact Or.inr rfl)) (pgs_cons (pg_name (i := 3) sc_random_out.nd rfl (by first | exact Or.inl rfl | exact Or.inr rfl)) pgs_nil)))
      (ss_one (ss_ret (s_cal0 C_ratio hr (sa_cons (s_loc 2) (sa_cons (s_loc 3) sa_nil))))))))
abbrev s_is_holder : Stmt := top 13
theorem sc_is_holder : FnScope ["value", "size"] ["value", "size"] (defScope s_is_holder) := ⟨rfl, rfl, rfl, by decide +kernel, rfl, by decide +kernel, by decide +kernel⟩
def c_is_holder : Es :=
  (cRet (fCall0 F_is_integer_from (aCons (fLoc 0) (aCons (fCst (.int (-1))) (aCons (fBin (hI iSub) (fLoc 1) (fCst (.int 1))) aNil)))))
def F_is_holder : Fn0 := run0 2 2 c_is_holder
theorem b_is_holder {f c : Addr} (G : Txt K mg) (C_is_integer_from : Cal P w K mg base 2 "is_integer_from" ["value", "least", "most"] (sp0 K T F_is_integer_from)) : BodyOk P w K mg base T 2 "is_holder" s_is_holder f c ["value", "size"] (c_is_holder) := by
  intro A outer s H E hr
  exact (ss_one (ss_ret (s_cal0 C_is_integer_from hr (sa_cons (s_loc 0) (sa_cons (s_glob (by rfl) G.c_OFFICE.choose_spec) (sa_cons (s_op op_sub b_sub (s_loc 1) s_int) sa_nil))))))
abbrev s_is_deputies : Stmt := top 14
theorem sc_is_deputies : FnScope ["value"] ["value"] (defScope s_is_deputies) := ⟨rfl, rfl, rfl, by decide +kernel, rfl, by decide +kernel, by decide +kernel⟩
def c_is_deputies : Es :=
  (cSeq (cIf (gOr (gNot (fTst (fIsi "tuple" (fLoc 0)))) (gNot (fTst (fChain (hB iLe) (hB iLe) (fCst (.int 1)) (fUn hLen (fLoc 0)) (fCst (.int (6))))))) (cRet (fCst (.bool false))) cNil)
  (cRet (fAllG 1 (iRng1 (aCons (fUn hLen (fLoc 0)) aNil)) (stNm 1) gYes (fAnd (fCall0 F_is_holder (aCons (fBin hIx (fLoc 0) (fLoc 1)) (aCons (fUn hLen (fLoc 0)) aNil))) (fBin (hEq true) (fBin hIx (fLoc 0) (fLoc 1)) (fLoc 1))))))
def F_is_deputies : Fn0 := run0 1 1 c_is_deputies
theorem b_is_deputies {f c : Addr} (G : Txt K mg) (C_is_holder : Cal P w K mg base 3 "is_holder" ["value", "size"] (sp0 K T F_is_holder)) {Pt : Addr} (TB : LamX.TabB base mg c Pt) (hP : Pt ∈ T) : BodyOk P w K mg base T 4 "is_deputies" s_is_deputies f c ["value"] (c_is_deputies) := by
  intro A outer s H E hr
  exact (ss_cons (ss_if (st_w (sw_or (st_not (st_val (s_isi (by rfl) G.g_isinstance (by rfl) G.g_tuple bo_tuple (s_loc 0)))) (sw_or1 (st_not (st_chain op_le b_le op_le b_le s_int (s_callB1 call_len_seq u_len (by rfl) G.g_len bo_len (s_loc 0)) (s_glob (by rfl) G.c_MOST_PEOPLE.choose_spec)))))) (ss_one (ss_ret s_bl)) ss_nil)
      (ss_one (ss_ret (s_allG (k := 1) (N' := ["value", "person"]) hr (by rfl) G.g_all bo_all (.base rfl TB) hP (gsc_of (by rfl)) rfl (si_range1 (by rfl) G.g_range (sa_cons (s_callB1 call_len_seq u_len (by rfl) G.g_len bo_len (s_loc 0)) sa_nil)) (g_nm 1) (by exact (by decide : ∀ i ∈ [1], 1 ≤ i)) (fun _ _ _ _ _ _ => (pg_name (i := 1) (noDup_of (by rfl)) rfl (by first | exact Or.inl rfl | exact Or.inr rfl))) (fun _ _ _ _ _ _ => sts_nil) (fun _ _ _ _ _ _ hN => (s_and (s_cal0 C_is_holder (room_gen hr _) (sa_cons (s_ix o_ix b_ix (s_loc 0) (s_loc 1)) (sa_cons (s_callB1 call_len_seq u_len (by rfl) G.g_len bo_len (s_loc 0)) sa_nil))) (s_one (s_cmp (op_neD (hu4 (room_gen hr _))) b_ne (s_ix o_ix b_ix (s_loc 0) (s_loc 1)) (s_loc 1)))))))))
abbrev s_check_deputies : Stmt := top 18
theorem sc_check_deputies : FnScope ["value"] ["value"] (defScope s_check_deputies) := ⟨rfl, rfl, rfl, by decide +kernel, rfl, by decide +kernel, by decide +kernel⟩
def c_check_deputies : Es :=
  (cIf (gNot (fTst (fCall0 F_is_deputies (aCons (fLoc 0) aNil)))) cNever cNil)
def F_check_deputies : Fn0 := run0 1 1 c_check_deputies
theorem b_check_deputies {f c : Addr} (G : Txt K mg) (C_is_deputies : Cal P w K mg base 5 "is_deputies" ["value"] (sp0 K T F_is_deputies)) : BodyOk P w K mg base T 5 "check_deputies" s_check_deputies f c ["value"] (c_check_deputies) := by
  intro A outer s H E hr
  exact (ss_one (ss_if (st_not (st_val (s_cal0 C_is_deputies hr (sa_cons (s_loc 0) sa_nil)))) (ss_one ss_never) ss_nil))
abbrev s_chain_of : Stmt := top 38
theorem sc_chain_of : FnScope ["deputies", "person", "met", "at"] ["deputies", "person"] (defScope s_chain_of) := ⟨rfl, rfl, rfl, by decide +kernel, rfl, by decide +kernel, by decide +kernel⟩
def c_chain_of : Es :=
  (cSeq (cAsg 2 (fLst aNil))
  (cSeq (cAsg 3 (fLoc 1))
  (cSeq (whl (gAnd (fTst (fBin (hEq true) (fLoc 3) (fCst (.int (-1))))) (fTst (fBin (hInX true) (fLoc 3) (fLoc 2)))) (cSeq (cApp 2 (fLoc 3))
  (cAsg 3 (fBin hIx (fLoc 0) (fLoc 3)))) 1000)
  (cRet (fUn hTuple (fLoc 2))))))
def F_chain_of : Fn0 := run0 2 4 c_chain_of
theorem b_chain_of {f c : Addr} (G : Txt K mg) : BodyOk P w K mg base T 0 "chain_of" s_chain_of f c ["deputies", "person", "met", "at"] (c_chain_of) := by
  intro A outer s H E hr
  exact (ss_cons (ss_set (i := 2) sc_chain_of.nd (s_lst sa_nil))
      (ss_cons (ss_set (i := 3) sc_chain_of.nd (s_loc 1))
      (ss_cons (ss_while 1000 PassesOwn.never (st_w (sw_and (st_cmp (op_neD (hu4 hr)) b_ne (s_loc 3) (s_glob (by rfl) G.c_OFFICE.choose_spec)) (sw_and1 (st_cmp (op_notInX (hu5 hr)) b_notInX (s_loc 3) (s_loc 2))))) (ss_cons (ss_app 2 (s_loc 3))
      (ss_one (ss_set (i := 3) sc_chain_of.nd (s_ix o_ix b_ix (s_loc 0) (s_loc 3))))))
      (ss_one (ss_ret (s_callTy1 call_tupF u_tuple (by rfl) G.g_tuple bo_tuple (s_loc 2)))))))
abbrev s_least_chain_of : Stmt := top 54
theorem sc_least_chain_of : FnScope ["deputies"] ["deputies"] (defScope s_least_chain_of) := ⟨rfl, rfl, rfl, by decide +kernel, rfl, by decide +kernel, by decide +kernel⟩
def c_least_chain_of : Es :=
  (cRet (fMinG 1 (iRng1 (aCons (fUn hLen (fLoc 0)) aNil)) (stNm 1) gYes (fUn hLen (fCall0 F_chain_of (aCons (fLoc 0) (aCons (fLoc 1) aNil))))))
def F_least_chain_of : Fn0 := run0 1 1 c_least_chain_of
theorem b_least_chain_of {f c : Addr} (G : Txt K mg) (C_chain_of : Cal P w K mg base 1 "chain_of" ["deputies", "person"] (sp0 K T F_chain_of)) {Pt : Addr} (TB : LamX.TabB base mg c Pt) (hP : Pt ∈ T) : BodyOk P w K mg base T 2 "least_chain_of" s_least_chain_of f c ["deputies"] (c_least_chain_of) := by
  intro A outer s H E hr
  exact (ss_one (ss_ret (s_minG (k := 1) (N' := ["deputies", "person"]) hr (by rfl) G.g_min bo_min (.base rfl TB) hP (gsc_of (by rfl)) rfl (si_range1 (by rfl) G.g_range (sa_cons (s_callB1 call_len_seq u_len (by rfl) G.g_len bo_len (s_loc 0)) sa_nil)) (g_nm 1) (by exact (by decide : ∀ i ∈ [1], 1 ≤ i)) (fun _ _ _ _ _ _ => (pg_name (i := 1) (noDup_of (by rfl)) rfl (by first | exact Or.inl rfl | exact Or.inr rfl))) (fun _ _ _ _ _ _ => sts_nil) (fun _ _ _ _ _ _ hN => (s_callB1 call_len_seq u_len (by rfl) G.g_len bo_len (s_cal0 C_chain_of (room_gen hr _) (sa_cons (s_loc 0) (sa_cons (s_loc 1) sa_nil))))))))
abbrev s_surest : Stmt := top 58
theorem sc_surest : FnScope ["deputies"] ["deputies"] (defScope s_surest) := ⟨rfl, rfl, rfl, by decide +kernel, rfl, by decide +kernel, by decide +kernel⟩
def c_surest : Es :=
  (cSeq (cExp (fCall0 F_check_deputies (aCons (fLoc 0) aNil)))
  (cRet (fBin (hI iSub) (fCall0 F_least_chain_of (aCons (fLoc 0) aNil)) (fCst (.int 1)))))
def F_surest : Fn0 := run0 1 1 c_surest
theorem b_surest {f c : Addr} (G : Txt K mg) (C_check_deputies : Cal P w K mg base 6 "check_deputies" ["value"] (sp0 K T F_check_deputies)) (C_least_chain_of : Cal P w K mg base 3 "least_chain_of" ["deputies"] (sp0 K T F_least_chain_of)) : BodyOk P w K mg base T 6 "surest" s_surest f c ["deputies"] (c_surest) := by
  intro A outer s H E hr
  exact (ss_cons (ss_expr (s_cal0 C_check_deputies hr (sa_cons (s_loc 0) sa_nil)))
      (ss_one (ss_ret (s_op op_sub b_sub (s_cal0 C_least_chain_of hr (sa_cons (s_loc 0) sa_nil)) s_int))))
abbrev s__law_by : Stmt := top 66
theorem sc__law_by : FnScope ["one", "other"] ["one", "other"] (defScope s__law_by) := ⟨rfl, rfl, rfl, by decide +kernel, rfl, by decide +kernel, by decide +kernel⟩
def c__law_by : Es :=
  (cRet (fCall0 F__law_ratio (aCons (fBin (hI iMul) (fBin hIx (fLoc 0) (fCst (.int 0))) (fBin hIx (fLoc 1) (fCst (.int 0)))) (aCons (fBin (hI iMul) (fBin hIx (fLoc 0) (fCst (.int 1))) (fBin hIx (fLoc 1) (fCst (.int 1)))) aNil))))
def F__law_by : Fn0 := run0 2 2 c__law_by
theorem b__law_by {f c : Addr} (G : Txt K mg) (C__law_ratio : Cal P w K mg base 1 "_law_ratio" ["top", "bottom"] (sp0 K T F__law_ratio)) : BodyOk P w K mg base T 1 "_law_by" s__law_by f c ["one", "other"] (c__law_by) := by
  intro A outer s H E hr
  exact (ss_one (ss_ret (s_cal0 C__law_ratio hr (sa_cons (s_op op_mulW b_mul (s_ix o_ix b_ix (s_loc 0) s_int) (s_ix o_ix b_ix (s_loc 1) s_int)) (sa_cons (s_op op_mulW b_mul (s_ix o_ix b_ix (s_loc 0) s_int) (s_ix o_ix b_ix (s_loc 1) s_int)) sa_nil)))))
abbrev s_naming_count : Stmt := top 30
theorem sc_naming_count : FnScope ["size"] ["size"] (defScope s_naming_count) := ⟨rfl, rfl, rfl, by decide +kernel, rfl, by decide +kernel, by decide +kernel⟩
def c_naming_count : Es :=
  (cSeq (cExp (fCall0 F_check_count (aCons (fLoc 0) (aCons (fCst (.int 1)) (aCons (fCst (.int (60))) aNil)))))
  (cRet (fCall0 F_naming_count_of (aCons (fLoc 0) aNil))))
def F_naming_count : Fn0 := run0 1 1 c_naming_count
theorem b_naming_count {f c : Addr} (G : Txt K mg) (C_check_count : Cal P w K mg base 3 "check_count" ["value", "least", "most"] (sp0 K T F_check_count)) (C_naming_count_of : Cal P w K mg base 2 "naming_count_of" ["size"] (sp0 K T F_naming_count_of)) : BodyOk P w K mg base T 3 "naming_count" s_naming_count f c ["size"] (c_naming_count) := by
  intro A outer s H E hr
  exact (ss_cons (ss_expr (s_cal0 C_check_count hr (sa_cons (s_loc 0) (sa_cons s_int (sa_cons (s_glob (by rfl) G.c_MOST_COUNTED.choose_spec) sa_nil)))))
      (ss_one (ss_ret (s_cal0 C_naming_count_of hr (sa_cons (s_loc 0) sa_nil)))))
abbrev s_all_lots : Stmt := top 46
theorem sc_all_lots : FnScope ["size", "many", "lot"] ["size"] (defScope s_all_lots) := ⟨rfl, rfl, rfl, by decide +kernel, rfl, by decide +kernel, by decide +kernel⟩
def c_all_lots : Es :=
  (cRet (fComp2 [1, 2] [2] (iRng1 (aCons (fBin hAdd (fLoc 0) (fCst (.int 1))) aNil)) (stNm 1) gYes (iCmbR (fLoc 0) (fLoc 1)) (stNm 2) gYes (fLoc 2)))
def F_all_lots : Fn0 := run0 1 3 c_all_lots
theorem b_all_lots {f c : Addr} (G : Txt K mg) : BodyOk P w K mg base T 0 "all_lots" s_all_lots f c ["size", "many", "lot"] (c_all_lots) := by
  intro A outer s H E hr
  exact (ss_one (ss_ret (s_comp2 rfl sc_all_lots.nd (si_range1 (by rfl) G.g_range (sa_cons (s_op o_add b_add (s_loc 0) s_int) sa_nil)) (own := [("many", 1), ("lot", 2)]) (blk_of (by rfl)) (g_nm 1) (by decide) (vs1 := [2]) (g_nm 2) (by decide) (by decide) (fun _ _ _ _ _ => (pg_name (i := 1) sc_all_lots.nd rfl (by first | exact Or.inl rfl | exact Or.inr rfl))) (fun _ _ _ _ _ => sts_nil) (fun _ _ _ _ _ => (SM.si (sm_cmbR rfl (by rfl) G.m_combinations (by rfl) G.g_range (s_loc 0) (s_loc 1)))) (fun _ _ _ _ _ => (pg_name (i := 2) sc_all_lots.nd rfl (by first | exact Or.inl rfl | exact Or.inr rfl))) (fun _ _ _ _ _ => sts_nil) (fun _ _ _ _ _ => (s_loc 2)))))
abbrev s_holder_of : Stmt := top 40
theorem sc_holder_of : FnScope ["deputies", "gone", "person", "one"] ["deputies", "gone", "person"] (defScope s_holder_of) := ⟨rfl, rfl, rfl, by decide +kernel, rfl, by decide +kernel, by decide +kernel⟩
def c_holder_of : Es :=
  (cSeq (cFor (iSeq (fCall0 F_chain_of (aCons (fLoc 0) (aCons (fLoc 2) aNil)))) (stNm 3) (cIf (fTst (fBin (hInX true) (fLoc 3) (fLoc 1))) (cRet (fLoc 3)) cNil))
  (cRet (fCst (.int (-1)))))
def F_holder_of : Fn0 := run0 3 4 c_holder_of
theorem b_holder_of {f c : Addr} (G : Txt K mg) (C_chain_of : Cal P w K mg base 1 "chain_of" ["deputies", "person"] (sp0 K T F_chain_of)) : BodyOk P w K mg base T 1 "holder_of" s_holder_of f c ["deputies", "gone", "person", "one"] (c_holder_of) := by
  intro A outer s H E hr
  exact (ss_cons (ss_for PassesOwn.never rfl (si_seq (s_cal0 C_chain_of hr (sa_cons (s_loc 0) (sa_cons (s_loc 2) sa_nil)))) (pg_name (i := 3) sc_holder_of.nd rfl (by first | exact Or.inl rfl | exact Or.inr rfl)) (g_nm 3) (ss_one (ss_if (st_cmp (op_notInX (hu5 hr)) b_notInX (s_loc 3) (s_loc 1)) (ss_one (ss_ret (s_loc 3))) ss_nil)))
      (ss_one (ss_ret (s_glob (by rfl) G.c_OFFICE.choose_spec))))
abbrev s_holders_of : Stmt := top 41
theorem sc_holders_of : FnScope ["deputies", "gone"] ["deputies", "gone"] (defScope s_holders_of) := ⟨rfl, rfl, rfl, by decide +kernel, rfl, by decide +kernel, by decide +kernel⟩
def c_holders_of : Es :=
  (cRet (fTupG 1 (iRng1 (aCons (fUn hLen (fLoc 0)) aNil)) (stNm 2) gYes (fCall0 F_holder_of (aCons (fLoc 0) (aCons (fLoc 1) (aCons (fLoc 2) aNil))))))
def F_holders_of : Fn0 := run0 2 2 c_holders_of
theorem b_holders_of {f c : Addr} (G : Txt K mg) (C_holder_of : Cal P w K mg base 2 "holder_of" ["deputies", "gone", "person"] (sp0 K T F_holder_of)) {Pt : Addr} (TB : LamX.TabB base mg c Pt) (hP : Pt ∈ T) : BodyOk P w K mg base T 3 "holders_of" s_holders_of f c ["deputies", "gone"] (c_holders_of) := by
  intro A outer s H E hr
  exact (ss_one (ss_ret (s_tupG (k := 1) (N' := ["deputies", "gone", "person"]) hr (by rfl) G.g_tuple bo_tuple (.base rfl TB) hP (gsc_of (by rfl)) rfl (si_range1 (by rfl) G.g_range (sa_cons (s_callB1 call_len_seq u_len (by rfl) G.g_len bo_len (s_loc 0)) sa_nil)) (g_nm 2) (by exact (by decide : ∀ i ∈ [2], 2 ≤ i)) (fun _ _ _ _ _ _ => (pg_name (i := 2) (noDup_of (by rfl)) rfl (by first | exact Or.inl rfl | exact Or.inr rfl))) (fun _ _ _ _ _ _ => sts_nil) (fun _ _ _ _ _ _ hN => (s_cal0 C_holder_of (room_gen hr _) (sa_cons (s_loc 0) (sa_cons (s_loc 1) (sa_cons (s_loc 2) sa_nil))))))))
abbrev s_safe_count : Stmt := top 52
theorem sc_safe_count : FnScope ["deputies", "lot"] ["deputies"] (defScope s_safe_count) := ⟨rfl, rfl, rfl, by decide +kernel, rfl, by decide +kernel, by decide +kernel⟩
def c_safe_count : Es :=
  (cSeq (cExp (fCall0 F_check_deputies (aCons (fLoc 0) aNil)))
  (cRet (fUn hLen (fComp [1] (iSeq (fCall0 F_all_lots (aCons (fUn hLen (fLoc 0)) aNil))) (stNm 1) (fTst (fBin (hInX true) (fCst (.int (-1))) (fCall0 F_holders_of (aCons (fLoc 0) (aCons (fLoc 1) aNil))))) (fLoc 1)))))
def F_safe_count : Fn0 := run0 1 2 c_safe_count
theorem b_safe_count {f c : Addr} (G : Txt K mg) (C_check_deputies : Cal P w K mg base 6 "check_deputies" ["value"] (sp0 K T F_check_deputies)) (C_all_lots : Cal P w K mg base 1 "all_lots" ["size"] (sp0 K T F_all_lots)) (C_holders_of : Cal P w K mg base 4 "holders_of" ["deputies", "gone"] (sp0 K T F_holders_of)) : BodyOk P w K mg base T 6 "safe_count" s_safe_count f c ["deputies", "lot"] (c_safe_count) := by
  intro A outer s H E hr
  exact (ss_cons (ss_expr (s_cal0 C_check_deputies hr (sa_cons (s_loc 0) sa_nil)))
      (ss_one (ss_ret (s_callB1 call_len_seq u_len (by rfl) G.g_len bo_len (s_comp rfl sc_safe_count.nd (si_seq (s_cal0 C_all_lots hr (sa_cons (s_callB1 call_len_seq u_len (by rfl) G.g_len bo_len (s_loc 0)) sa_nil))) (own := [("lot", 1)]) (blk_of (by rfl)) (g_nm 1) (by decide) (fun _ _ _ _ _ => (pg_name (i := 1) sc_safe_count.nd rfl (by first | exact Or.inl rfl | exact Or.inr rfl))) (fun _ _ _ _ _ => (sts_one (st_cmp (op_notInX (hu5 hr)) b_notInX (s_glob (by rfl) G.c_OFFICE.choose_spec) (s_cal0 C_holders_of hr (sa_cons (s_loc 0) (sa_cons (s_loc 1) sa_nil)))))) (fun _ _ _ _ _ => (s_loc 1)))))))
abbrev s__law_less : Stmt := top 68
theorem sc__law_less : FnScope ["one", "other"] ["one", "other"] (defScope s__law_less) := ⟨rfl, rfl, rfl, by decide +kernel, rfl, by decide +kernel, by decide +kernel⟩
def c__law_less : Es :=
  (cRet (fBin (hB iLt) (fBin (hI iMul) (fBin hIx (fLoc 0) (fCst (.int 0))) (fBin hIx (fLoc 1) (fCst (.int 1)))) (fBin (hI iMul) (fBin hIx (fLoc 1) (fCst (.int 0))) (fBin hIx (fLoc 0) (fCst (.int 1))))))
def F__law_less : Fn0 := run0 2 2 c__law_less
theorem b__law_less {f c : Addr} (G : Txt K mg) : BodyOk P w K mg base T 0 "_law_less" s__law_less f c ["one", "other"] (c__law_less) := by
  intro A outer s H E hr
  exact (ss_one (ss_ret (s_cmp op_lt b_lt (s_op op_mulW b_mul (s_ix o_ix b_ix (s_loc 0) s_int) (s_ix o_ix b_ix (s_loc 1) s_int)) (s_op op_mulW b_mul (s_ix o_ix b_ix (s_loc 1) s_int) (s_ix o_ix b_ix (s_loc 0) s_int)))))
abbrev s_sum_of : Stmt := top 25
theorem sc_sum_of : FnScope ["ratios", "top", "bottom", "each_top", "each_bottom"] ["ratios"] (defScope s_sum_of) := ⟨rfl, rfl, rfl, by decide +kernel, rfl, by decide +kernel, by decide +kernel⟩
def c_sum_of : Es :=
  (cSeq (cAsg 1 (fCst (.int 0)))
  (cSeq (cAsg 2 (fCst (.int 1)))
  (cSeq (cFor (iSeq (fLoc 0)) (stTup [3, 4]) (cUnp [1, 2] (fCall0 F_ratio (aCons (fBin hAdd (fBin (hI iMul) (fLoc 1) (fLoc 4)) (fBin (hI iMul) (fLoc 3) (fLoc 2))) (aCons (fBin (hI iMul) (fLoc 2) (fLoc 4)) aNil)))))
  (cRet (fTup (aCons (fLoc 1) (aCons (fLoc 2) aNil)))))))
def F_sum_of : Fn0 := run0 1 5 c_sum_of
theorem b_sum_of {f c : Addr} (G : Txt K mg) (C_ratio : Cal P w K mg base 1 "ratio" ["top", "bottom"] (sp0 K T F_ratio)) : BodyOk P w K mg base T 1 "sum_of" s_sum_of f c ["ratios", "top", "bottom", "each_top", "each_bottom"] (c_sum_of) := by
  intro A outer s H E hr
  exact (ss_cons (ss_set (i := 1) sc_sum_of.nd s_int)
      (ss_cons (ss_set (i := 2) sc_sum_of.nd s_int)
      (ss_cons (ss_for PassesOwn.never rfl (si_seq (s_loc 0)) (pg_tup rfl (pgs_cons (pg_name (i := 3) sc_sum_of.nd rfl (by first | exact Or.inl rfl | exact Or.inr rfl)) (pgs_cons (pg_name (i := 4) sc_sum_of.nd rfl (by first | exact Or.inl rfl | exact Or.inr rfl)) pgs_nil)) rfl rfl) (g_tup [3, 4]) (ss_one (ss_unp (is := [1, 2]) rfl (s_cal0 C_ratio hr (sa_cons (s_op o_add b_add (s_op op_mulW b_mul (s_loc 1) (s_loc 4)) (s_op op_mulW b_mul (s_loc 3) (s_loc 2))) (sa_cons (s_op op_mulW b_mul (s_loc 2) (s_loc 4)) sa_nil))) (pgs_cons (pg_name (i := 1) sc_sum_of.nd rfl (by first | exact Or.inl rfl | exact Or.inr rfl)) (pgs_cons (pg_name (i := 2) sc_sum_of.nd rfl (by first | exact Or.inl rfl | exact Or.inr rfl)) pgs_nil)))))
      (ss_one (ss_ret (s_tup (sa_cons (s_loc 1) (sa_cons (s_loc 2) sa_nil))))))))
abbrev s_ahead_of : Stmt := top 39
theorem sc_ahead_of : FnScope ["deputies", "person", "other", "met"] ["deputies", "person", "other"] (defScope s_ahead_of) := ⟨rfl, rfl, rfl, by decide +kernel, rfl, by decide +kernel, by decide +kernel⟩
def c_ahead_of : Es :=
  (cSeq (cAsg 3 (fCall0 F_chain_of (aCons (fLoc 0) (aCons (fLoc 1) aNil))))
  (cSeq (cIf (fTst (fBin (hEq false) (fLoc 2) (fCst (.int (-1))))) (cRet (fLoc 3)) cNil)
  (cSeq (cIf (fTst (fBin (hInX true) (fLoc 2) (fLoc 3))) (cRet (fCst .none)) cNil)
  (cRet (fSl (fLoc 3) pNo (pSome (fIdxM (fLoc 3) (fLoc 2))))))))
def F_ahead_of : Fn0 := run0 3 4 c_ahead_of
theorem b_ahead_of {f c : Addr} (G : Txt K mg) (C_chain_of : Cal P w K mg base 1 "chain_of" ["deputies", "person"] (sp0 K T F_chain_of)) : BodyOk P w K mg base T 1 "ahead_of" s_ahead_of f c ["deputies", "person", "other", "met"] (c_ahead_of) := by
  intro A outer s H E hr
  exact (ss_cons (ss_set (i := 3) sc_ahead_of.nd (s_cal0 C_chain_of hr (sa_cons (s_loc 0) (sa_cons (s_loc 1) sa_nil))))
      (ss_cons (ss_if (st_cmp (op_eqD (hu4 hr)) b_eq (s_loc 2) (s_glob (by rfl) G.c_OFFICE.choose_spec)) (ss_one (ss_ret (s_loc 3))) ss_nil)
      (ss_cons (ss_if (st_cmp (op_notInX (hu5 hr)) b_notInX (s_loc 2) (s_loc 3)) (ss_one (ss_ret s_non)) ss_nil)
      (ss_one (ss_ret (s_sl (s_loc 3) sp_no (sp_some (s_idxM (hu5 hr) (s_loc 3) (s_loc 2)))))))))
abbrev s_ever_chance_of : Stmt := top 48
theorem sc_ever_chance_of : FnScope ["deputies", "person", "other", "ahead"] ["deputies", "person", "other"] (defScope s_ever_chance_of) := ⟨rfl, rfl, rfl, by decide +kernel, rfl, by decide +kernel, by decide +kernel⟩
def c_ever_chance_of : Es :=
  (cSeq (cIf (fTst (fBin (hEq false) (fLoc 2) (fCst (.int (-1))))) (cRet (fCst (.tuple [.int (1), .int (1)]))) cNil)
  (cSeq (cAsg 3 (fCall0 F_ahead_of (aCons (fLoc 0) (aCons (fLoc 1) (aCons (fLoc 2) aNil)))))
  (cSeq (cIf (fTst (fBin hIsN (fLoc 3) (fCst .none))) (cRet (fCst (.tuple [.int (0), .int (1)]))) cNil)
  (cRet (fTup (aCons (fCst (.int 1)) (aCons (fBin hAdd (fUn hLen (fLoc 3)) (fCst (.int 1))) aNil)))))))
def F_ever_chance_of : Fn0 := run0 3 4 c_ever_chance_of
theorem b_ever_chance_of {f c : Addr} (G : Txt K mg) (C_ahead_of : Cal P w K mg base 2 "ahead_of" ["deputies", "person", "other"] (sp0 K T F_ahead_of)) : BodyOk P w K mg base T 2 "ever_chance_of" s_ever_chance_of f c ["deputies", "person", "other", "ahead"] (c_ever_chance_of) := by
  intro A outer s H E hr
  exact (ss_cons (ss_if (st_cmp (op_eqD (hu4 hr)) b_eq (s_loc 2) (s_glob (by rfl) G.c_OFFICE.choose_spec)) (ss_one (ss_ret (s_globT (ns := [1, 1]) (by rfl) G.c_SURE.choose_spec))) ss_nil)
      (ss_cons (ss_set (i := 3) sc_ever_chance_of.nd (s_cal0 C_ahead_of hr (sa_cons (s_loc 0) (sa_cons (s_loc 1) (sa_cons (s_loc 2) sa_nil)))))
      (ss_cons (ss_if (st_cmp op_isN b_isN (s_loc 3) s_non) (ss_one (ss_ret (s_globT (ns := [0, 1]) (by rfl) G.c_NONE_AT_ALL.choose_spec))) ss_nil)
      (ss_one (ss_ret (s_tup (sa_cons s_int (sa_cons (s_op o_add b_add (s_callB1 call_len_seq u_len (by rfl) G.g_len bo_len (s_loc 3)) s_int) sa_nil))))))))
abbrev s_mean_handings : Stmt := top 49
theorem sc_mean_handings : FnScope ["deputies", "people", "person", "other"] ["deputies"] (defScope s_mean_handings) := ⟨rfl, rfl, rfl, by decide +kernel, rfl, by decide +kernel, by decide +kernel⟩
def c_mean_handings : Es :=
  (cSeq (cExp (fCall0 F_check_deputies (aCons (fLoc 0) aNil)))
  (cSeq (cAsg 1 (fListR1 (fUn hLen (fLoc 0))))
  (cRet (fCall0 F_sum_of (aCons (fComp2 [2, 3] [3] (iSeq (fLoc 1)) (stNm 2) gYes (iSeq (fLoc 1)) (stNm 3) gYes (fCall0 F_ever_chance_of (aCons (fLoc 0) (aCons (fLoc 2) (aCons (fLoc 3) aNil))))) aNil)))))
def F_mean_handings : Fn0 := run0 1 4 c_mean_handings
theorem b_mean_handings {f c : Addr} (G : Txt K mg) (C_check_deputies : Cal P w K mg base 6 "check_deputies" ["value"] (sp0 K T F_check_deputies)) (C_sum_of : Cal P w K mg base 2 "sum_of" ["ratios"] (sp0 K T F_sum_of)) (C_ever_chance_of : Cal P w K mg base 3 "ever_chance_of" ["deputies", "person", "other"] (sp0 K T F_ever_chance_of)) : BodyOk P w K mg base T 6 "mean_handings" s_mean_handings f c ["deputies", "people", "person", "other"] (c_mean_handings) := by
  intro A outer s H E hr
  exact (ss_cons (ss_expr (s_cal0 C_check_deputies hr (sa_cons (s_loc 0) sa_nil)))
      (ss_cons (ss_set (i := 1) sc_mean_handings.nd (s_listR1 rfl (by rfl) G.g_list (by rfl) G.g_range (s_callB1 call_len_seq u_len (by rfl) G.g_len bo_len (s_loc 0))))
      (ss_one (ss_ret (s_cal0 C_sum_of hr (sa_cons (s_comp2 rfl sc_mean_handings.nd (si_seq (s_loc 1)) (own := [("person", 2), ("other", 3)]) (blk_of (by rfl)) (g_nm 2) (by decide) (vs1 := [3]) (g_nm 3) (by decide) (by decide) (fun _ _ _ _ _ => (pg_name (i := 2) sc_mean_handings.nd rfl (by first | exact Or.inl rfl | exact Or.inr rfl))) (fun _ _ _ _ _ => sts_nil) (fun _ _ _ _ _ => (si_seq (s_loc 1))) (fun _ _ _ _ _ => (pg_name (i := 3) sc_mean_handings.nd rfl (by first | exact Or.inl rfl | exact Or.inr rfl))) (fun _ _ _ _ _ => sts_nil) (fun _ _ _ _ _ => (s_cal0 C_ever_chance_of hr (sa_cons (s_loc 0) (sa_cons (s_loc 2) (sa_cons (s_loc 3) sa_nil)))))) sa_nil))))))
abbrev s_random_loads : Stmt := top 35
theorem sc_random_loads : FnScope ["size", "many", "top", "bottom", "at_office"] ["size", "many"] (defScope s_random_loads) := ⟨rfl, rfl, rfl, by decide +kernel, rfl, by decide +kernel, by decide +kernel⟩
def c_random_loads : Es :=
  (cSeq (cExp (fCall0 F_check_count (aCons (fLoc 0) (aCons (fCst (.int 1)) (aCons (fCst (.int (60))) aNil)))))
  (cSeq (cExp (fCall0 F_check_count (aCons (fLoc 1) (aCons (fCst (.int 0)) (aCons (fLoc 0) aNil)))))
  (cSeq (cUnp [2, 3] (fCall0 F_chance_of_out (aCons (fLoc 0) (aCons (fLoc 1) aNil))))
  (cSeq (cAsg 4 (fCall0 F_ratio (aCons (fBin (hI iMul) (fLoc 1) (fLoc 2)) (aCons (fLoc 3) aNil))))
  (cSeq (cIf (fTst (fBin (hEq false) (fLoc 1) (fLoc 0))) (cRet (fTup (aCons (fTup (aCons (fCst (.int 0)) (aCons (fCst (.int 1)) aNil))) (aCons (fLoc 4) aNil)))) cNil)
  (cRet (fTup (aCons (fCall0 F_ratio (aCons (fBin (hI iSub) (fBin (hI iMul) (fLoc 0) (fLoc 3)) (fBin (hI iMul) (fLoc 1) (fLoc 2))) (aCons (fBin (hI iMul) (fLoc 3) (fBin (hI iSub) (fLoc 0) (fLoc 1))) aNil))) (aCons (fLoc 4) aNil)))))))))
def F_random_loads : Fn0 := run0 2 5 c_random_loads
theorem b_random_loads {f c : Addr} (G : Txt K mg) (C_check_count : Cal P w K mg base 3 "check_count" ["value", "least", "most"] (sp0 K T F_check_count)) (C_chance_of_out : Cal P w K mg base 1 "chance_of_out" ["size", "many"] (sp0 K T F_chance_of_out)) (C_ratio : Cal P w K mg base 1 "ratio" ["top", "bottom"] (sp0 K T F_ratio)) : BodyOk P w K mg base T 3 "random_loads" s_random_loads f c ["size", "many", "top", "bottom", "at_office"] (c_random_loads) := by
  intro A outer s H E hr
  exact (ss_cons (ss_expr (s_cal0 C_check_count hr (sa_cons (s_loc 0) (sa_cons s_int (sa_cons (s_glob (by rfl) G.c_MOST_COUNTED.choose_spec) sa_nil)))))
      (ss_cons (ss_expr (s_cal0 C_check_count hr (sa_cons (s_loc 1) (sa_cons s_int (sa_cons (s_loc 0) sa_nil)))))
      (ss_cons (ss_unp (is := [2, 3]) rfl (s_cal0 C_chance_of_out hr (sa_cons (s_loc 0) (sa_cons (s_loc 1) sa_nil))) (pgs_cons (pg_name (i := 2) sc_random_loads.nd rfl (by first | exact Or.inl rfl | exact Or.inr rfl)) (pgs_cons (pg_name (i := 3) sc_random_loads.nd rfl (by first | exact Or.inl rfl | exact Or.inr rfl)) pgs_nil)))
      (ss_cons (ss_set (i := 4) sc_random_loads.nd (s_cal0 C_ratio hr (sa_cons (s_op op_mulW b_mul (s_loc 1) (s_loc 2)) (sa_cons (s_loc 3) sa_nil))))
      (ss_cons (ss_if (st_cmp (op_eqD (hu4 hr)) b_eq (s_loc 1) (s_loc 0)) (ss_one (ss_ret (s_tup (sa_cons (s_tup (sa_cons s_int (sa_cons s_int sa_nil))) (sa_cons (s_loc 4) sa_nil))))) ss_nil)
      (ss_one (ss_ret (s_tup (sa_cons (s_cal0 C_ratio hr (sa_cons (s_op op_sub b_sub (s_op op_mulW b_mul (s_loc 0) (s_loc 3)) (s_op op_mulW b_mul (s_loc 1) (s_loc 2))) (sa_cons (s_op op_mulW b_mul (s_loc 3) (s_op op_sub b_sub (s_loc 0) (s_loc 1))) sa_nil))) (sa_cons (s_loc 4) sa_nil))))))))))
abbrev s_mean_chain : Stmt := top 31
theorem sc_mean_chain : FnScope ["size", "length", "total"] ["size"] (defScope s_mean_chain) := ⟨rfl, rfl, rfl, by decide +kernel, rfl, by decide +kernel, by decide +kernel⟩
def c_mean_chain : Es :=
  (cSeq (cExp (fCall0 F_check_count (aCons (fLoc 0) (aCons (fCst (.int 1)) (aCons (fCst (.int (60))) aNil)))))
  (cSeq (cAsg 2 (fUn hSum2 (fComp [1] (iRng2 (aCons (fCst (.int 1)) (aCons (fBin hAdd (fLoc 0) (fCst (.int 1))) aNil))) (stNm 1) gYes (fBin (hI iMul) (fLoc 1) (fCall0 F_chain_total_of (aCons (fLoc 0) (aCons (fLoc 1) aNil)))))))
  (cRet (fCall0 F_ratio (aCons (fLoc 2) (aCons (fBin (hI iMul) (fLoc 0) (fCall0 F_naming_count_of (aCons (fLoc 0) aNil))) aNil))))))
def F_mean_chain : Fn0 := run0 1 3 c_mean_chain
theorem b_mean_chain {f c : Addr} (G : Txt K mg) (C_check_count : Cal P w K mg base 3 "check_count" ["value", "least", "most"] (sp0 K T F_check_count)) (C_ratio : Cal P w K mg base 1 "ratio" ["top", "bottom"] (sp0 K T F_ratio)) (C_naming_count_of : Cal P w K mg base 2 "naming_count_of" ["size"] (sp0 K T F_naming_count_of)) (C_chain_total_of : Cal P w K mg base 2 "chain_total_of" ["size", "length"] (sp0 K T F_chain_total_of)) : BodyOk P w K mg base T 3 "mean_chain" s_mean_chain f c ["size", "length", "total"] (c_mean_chain) := by
  intro A outer s H E hr
  exact (ss_cons (ss_expr (s_cal0 C_check_count hr (sa_cons (s_loc 0) (sa_cons s_int (sa_cons (s_glob (by rfl) G.c_MOST_COUNTED.choose_spec) sa_nil)))))
      (ss_cons (ss_set (i := 2) sc_mean_chain.nd (s_callB1 (cr_sum2 rfl) u_sum2 (by rfl) G.g_sum bo_sum (s_comp rfl sc_mean_chain.nd (si_range2 (by rfl) G.g_range (sa_cons s_int (sa_cons (s_op o_add b_add (s_loc 0) s_int) sa_nil))) (own := [("length", 1)]) (blk_of (by rfl)) (g_nm 1) (by decide) (fun _ _ _ _ _ => (pg_name (i := 1) sc_mean_chain.nd rfl (by first | exact Or.inl rfl | exact Or.inr rfl))) (fun _ _ _ _ _ => sts_nil) (fun _ _ _ _ _ => (s_op op_mulW b_mul (s_loc 1) (s_cal0 C_chain_total_of hr (sa_cons (s_loc 0) (sa_cons (s_loc 1) sa_nil))))))))
      (ss_one (ss_ret (s_cal0 C_ratio hr (sa_cons (s_loc 2) (sa_cons (s_op op_mulW b_mul (s_loc 0) (s_cal0 C_naming_count_of hr (sa_cons (s_loc 0) sa_nil))) sa_nil)))))))
abbrev s_loads_of : Stmt := top 42
theorem sc_loads_of : FnScope ["deputies", "gone", "by_people", "held"] ["deputies", "gone"] (defScope s_loads_of) := ⟨rfl, rfl, rfl, by decide +kernel, rfl, by decide +kernel, by decide +kernel⟩
def c_loads_of : Es :=
  (cSeq (cAsg 3 (fCall0 F_holders_of (aCons (fLoc 0) (aCons (fLoc 1) aNil))))
  (cSeq (cAsg 2 (fTupG 1 (iRng1 (aCons (fUn hLen (fLoc 0)) aNil)) (stNm 4) gYes (fCnt (fLoc 3) (fLoc 4))))
  (cRet (fTup (aStar (fLoc 2) (aCons (fCnt (fLoc 3) (fCst (.int (-1)))) aNil))))))
def F_loads_of : Fn0 := run0 2 4 c_loads_of
theorem b_loads_of {f c : Addr} (G : Txt K mg) (C_holders_of : Cal P w K mg base 4 "holders_of" ["deputies", "gone"] (sp0 K T F_holders_of)) {Pt : Addr} (TB : LamX.TabB base mg c Pt) (hP : Pt ∈ T) : BodyOk P w K mg base T 4 "loads_of" s_loads_of f c ["deputies", "gone", "by_people", "held"] (c_loads_of) := by
  intro A outer s H E hr
  exact (ss_cons (ss_set (i := 3) sc_loads_of.nd (s_cal0 C_holders_of hr (sa_cons (s_loc 0) (sa_cons (s_loc 1) sa_nil))))
      (ss_cons (ss_set (i := 2) sc_loads_of.nd (s_tupG (k := 1) (N' := ["deputies", "gone", "by_people", "held", "person"]) hr (by rfl) G.g_tuple bo_tuple (.base rfl TB) hP (gsc_of (by rfl)) rfl (si_range1 (by rfl) G.g_range (sa_cons (s_callB1 call_len_seq u_len (by rfl) G.g_len bo_len (s_loc 0)) sa_nil)) (g_nm 4) (by exact (by decide : ∀ i ∈ [4], 4 ≤ i)) (fun _ _ _ _ _ _ => (pg_name (i := 4) (noDup_of (by rfl)) rfl (by first | exact Or.inl rfl | exact Or.inr rfl))) (fun _ _ _ _ _ _ => sts_nil) (fun _ _ _ _ _ _ hN => (s_cnt (s_loc 3) (s_loc 4)))))
      (ss_one (ss_ret (s_tup (sa_star (s_loc 2) (sa_cons (s_cnt (s_loc 3) (s_glob (by rfl) G.c_OFFICE.choose_spec)) sa_nil)))))))
abbrev s_lots_of : Stmt := top 45
theorem sc_lots_of : FnScope ["size", "many"] ["size", "many"] (defScope s_lots_of) := ⟨rfl, rfl, rfl, by decide +kernel, rfl, by decide +kernel, by decide +kernel⟩
def c_lots_of : Es :=
  (cRet (fListI (iCmbR (fLoc 0) (fLoc 1))))
def F_lots_of : Fn0 := run0 2 2 c_lots_of
theorem b_lots_of {f c : Addr} (G : Txt K mg) : BodyOk P w K mg base T 0 "lots_of" s_lots_of f c ["size", "many"] (c_lots_of) := by
  intro A outer s H E hr
  exact (ss_one (ss_ret (s_listM rfl (by rfl) G.g_list (sm_cmbR rfl (by rfl) G.m_combinations (by rfl) G.g_range (s_loc 0) (s_loc 1)) nolen_cmb nohint_cmb (by decide) (by decide))))
abbrev s_mean_loads : Stmt := top 50
theorem sc_mean_loads : FnScope ["deputies", "many", "lot", "rows"] ["deputies", "many"] (defScope s_mean_loads) := ⟨rfl, rfl, rfl, by decide +kernel, rfl, by decide +kernel, by decide +kernel⟩
def c_mean_loads : Es :=
  (cSeq (cExp (fCall0 F_check_deputies (aCons (fLoc 0) aNil)))
  (cSeq (cExp (fCall0 F_check_count (aCons (fLoc 1) (aCons (fCst (.int 0)) (aCons (fUn hLen (fLoc 0)) aNil)))))
  (cSeq (cAsg 3 (fComp [2] (iSeq (fCall0 F_lots_of (aCons (fUn hLen (fLoc 0)) (aCons (fLoc 1) aNil)))) (stNm 2) gYes (fCall0 F_loads_of (aCons (fLoc 0) (aCons (fLoc 2) aNil)))))
  (cRet (fTupG 1 (iRng1 (aCons (fBin hAdd (fUn hLen (fLoc 0)) (fCst (.int 1))) aNil)) (stNm 4) gYes (fCall0 F_ratio (aCons (fSumG 1 (iSeq (fLoc 3)) (stNm 5) gYes (fBin hIx (fLoc 5) (fLoc 4))) (aCons (fUn hLen (fLoc 3)) aNil))))))))
def F_mean_loads : Fn0 := run0 2 4 c_mean_loads
theorem b_mean_loads {f c : Addr} (G : Txt K mg) (C_check_deputies : Cal P w K mg base 6 "check_deputies" ["value"] (sp0 K T F_check_deputies)) (C_check_count : Cal P w K mg base 3 "check_count" ["value", "least", "most"] (sp0 K T F_check_count)) (C_loads_of : Cal P w K mg base 5 "loads_of" ["deputies", "gone"] (sp0 K T F_loads_of)) (C_lots_of : Cal P w K mg base 1 "lots_of" ["size", "many"] (sp0 K T F_lots_of)) (C_ratio : Cal P w K mg base 1 "ratio" ["top", "bottom"] (sp0 K T F_ratio)) {Pt : Addr} (TB : LamX.TabB base mg c Pt) (hP : Pt ∈ T) : BodyOk P w K mg base T 6 "mean_loads" s_mean_loads f c ["deputies", "many", "lot", "rows"] (c_mean_loads) := by
  intro A outer s H E hr
  exact (ss_cons (ss_expr (s_cal0 C_check_deputies hr (sa_cons (s_loc 0) sa_nil)))
      (ss_cons (ss_expr (s_cal0 C_check_count hr (sa_cons (s_loc 1) (sa_cons s_int (sa_cons (s_callB1 call_len_seq u_len (by rfl) G.g_len bo_len (s_loc 0)) sa_nil)))))
      (ss_cons (ss_set (i := 3) sc_mean_loads.nd (s_comp rfl sc_mean_loads.nd (si_seq (s_cal0 C_lots_of hr (sa_cons (s_callB1 call_len_seq u_len (by rfl) G.g_len bo_len (s_loc 0)) (sa_cons (s_loc 1) sa_nil)))) (own := [("lot", 2)]) (blk_of (by rfl)) (g_nm 2) (by decide) (fun _ _ _ _ _ => (pg_name (i := 2) sc_mean_loads.nd rfl (by first | exact Or.inl rfl | exact Or.inr rfl))) (fun _ _ _ _ _ => sts_nil) (fun _ _ _ _ _ => (s_cal0 C_loads_of hr (sa_cons (s_loc 0) (sa_cons (s_loc 2) sa_nil))))))
      (ss_one (ss_ret (s_tupG (k := 1) (N' := ["deputies", "many", "lot", "rows", "place"]) hr (by rfl) G.g_tuple bo_tuple (.base rfl TB) hP (gsc_of (by rfl)) rfl (si_range1 (by rfl) G.g_range (sa_cons (s_op o_add b_add (s_callB1 call_len_seq u_len (by rfl) G.g_len bo_len (s_loc 0)) s_int) sa_nil)) (g_nm 4) (by exact (by decide : ∀ i ∈ [4], 4 ≤ i)) (fun _ _ _ _ _ _ => (pg_name (i := 4) (noDup_of (by rfl)) rfl (by first | exact Or.inl rfl | exact Or.inr rfl))) (fun _ _ _ _ _ _ => sts_nil) (fun _ _ _ _ _ _ hN => (s_cal0 C_ratio (room_gen hr _) (sa_cons (s_sumG (k := 1) (N' := ["deputies", "many", "lot", "rows", "place", "row"]) (room_gen hr _) (by rfl) G.g_sum bo_sum (NxC.cdx hN rfl TB) hP (gsc_of (by rfl)) rfl (si_seq (s_loc 3)) (g_nm 5) (by exact (by decide : ∀ i ∈ [5], 5 ≤ i)) (fun _ _ _ _ _ _ => (pg_name (i := 5) (noDup_of (by rfl)) rfl (by first | exact Or.inl rfl | exact Or.inr rfl))) (fun _ _ _ _ _ _ => sts_nil) (fun _ _ _ _ _ _ hN => (s_ix o_ix b_ix (s_loc 5) (s_loc 4)))) (sa_cons (s_callB1 call_len_seq u_len (by rfl) G.g_len bo_len (s_loc 3)) sa_nil))))))))))
abbrev s_long_rings_of : Stmt := top 55
theorem sc_long_rings_of : FnScope ["many", "least", "counts", "people", "lengths", "length"] ["many", "least"] (defScope s_long_rings_of) := ⟨rfl, rfl, rfl, by decide +kernel, rfl, by decide +kernel, by decide +kernel⟩
def c_long_rings_of : Es :=
  (cSeq (cAsg 2 (fLst (aCons (fCst (.int 1)) aNil)))
  (cSeq (cFor (iRng2 (aCons (fCst (.int 1)) (aCons (fBin hAdd (fLoc 0) (fCst (.int 1))) aNil))) (stNm 3) (cSeq (cAsg 4 (fListR2 (fLoc 1) (fBin hAdd (fLoc 3) (fCst (.int 1)))))
  (cApp 2 (fUn hSum2 (fComp [5] (iSeq (fLoc 4)) (stNm 5) gYes (fBin (hI iMul) (fApp (a2 iPerm) (aCons (fBin (hI iSub) (fLoc 3) (fCst (.int 1))) (aCons (fBin (hI iSub) (fLoc 5) (fCst (.int 1))) aNil))) (fBin hIx (fLoc 2) (fBin (hI iSub) (fLoc 3) (fLoc 5)))))))))
  (cRet (fLoc 2))))
def F_long_rings_of : Fn0 := run0 2 6 c_long_rings_of
theorem b_long_rings_of {f c : Addr} (G : Txt K mg) : BodyOk P w K mg base T 0 "long_rings_of" s_long_rings_of f c ["many", "least", "counts", "people", "lengths", "length"] (c_long_rings_of) := by
  intro A outer s H E hr
  exact (ss_cons (ss_set (i := 2) sc_long_rings_of.nd (s_lst (sa_cons s_int sa_nil)))
      (ss_cons (ss_for PassesOwn.never rfl (si_range2 (by rfl) G.g_range (sa_cons s_int (sa_cons (s_op o_add b_add (s_loc 0) s_int) sa_nil))) (pg_name (i := 3) sc_long_rings_of.nd rfl (by first | exact Or.inl rfl | exact Or.inr rfl)) (g_nm 3) (ss_cons (ss_set (i := 4) sc_long_rings_of.nd (s_listR2 rfl (by rfl) G.g_list (by rfl) G.g_range (s_loc 1) (s_op o_add b_add (s_loc 3) s_int)))
      (ss_one (ss_app 2 (s_callB1 (cr_sum2 rfl) u_sum2 (by rfl) G.g_sum bo_sum (s_comp rfl sc_long_rings_of.nd (si_seq (s_loc 4)) (own := [("length", 5)]) (blk_of (by rfl)) (g_nm 5) (by decide) (fun _ _ _ _ _ => (pg_name (i := 5) sc_long_rings_of.nd rfl (by first | exact Or.inl rfl | exact Or.inr rfl))) (fun _ _ _ _ _ => sts_nil) (fun _ _ _ _ _ => (s_op op_mulW b_mul (s_appM cr_perm a_i2 (by rfl) G.m_perm (sa_cons (s_op op_sub b_sub (s_loc 3) s_int) (sa_cons (s_op op_sub b_sub (s_loc 5) s_int) sa_nil))) (s_ix o_ix b_ix (s_loc 2) (s_op op_sub b_sub (s_loc 3) (s_loc 5)))))))))))
      (ss_one (ss_ret (s_loc 2)))))
abbrev s_ways_to_rings_of : Stmt := top 56
theorem sc_ways_to_rings_of : FnScope ["size", "many"] ["size", "many"] (defScope s_ways_to_rings_of) := ⟨rfl, rfl, rfl, by decide +kernel, rfl, by decide +kernel, by decide +kernel⟩
def c_ways_to_rings_of : Es :=
  (cSeq (cIf (fTst (fBin (hEq false) (fLoc 1) (fLoc 0))) (cRet (fCst (.int 1))) cNil)
  (cRet (fBin (hI iMul) (fLoc 1) (fCall0 F_power_of (aCons (fLoc 0) (aCons (fBin (hI iSub) (fBin (hI iSub) (fLoc 0) (fLoc 1)) (fCst (.int 1))) aNil))))))
def F_ways_to_rings_of : Fn0 := run0 2 2 c_ways_to_rings_of
theorem b_ways_to_rings_of {f c : Addr} (G : Txt K mg) (C_power_of : Cal P w K mg base 1 "power_of" ["base", "times"] (sp0 K T F_power_of)) : BodyOk P w K mg base T 1 "ways_to_rings_of" s_ways_to_rings_of f c ["size", "many"] (c_ways_to_rings_of) := by
  intro A outer s H E hr
  exact (ss_cons (ss_if (st_cmp (op_eqD (hu4 hr)) b_eq (s_loc 1) (s_loc 0)) (ss_one (ss_ret s_int)) ss_nil)
      (ss_one (ss_ret (s_op op_mulW b_mul (s_loc 1) (s_cal0 C_power_of hr (sa_cons (s_loc 0) (sa_cons (s_op op_sub b_sub (s_op op_sub b_sub (s_loc 0) (s_loc 1)) s_int) sa_nil)))))))
abbrev s_sure_count_of : Stmt := top 57
theorem sc_sure_count_of : FnScope ["size", "many", "rings", "people"] ["size", "many"] (defScope s_sure_count_of) := ⟨rfl, rfl, rfl, by decide +kernel, rfl, by decide +kernel, by decide +kernel⟩
def c_sure_count_of : Es :=
  (cSeq (cAsg 2 (fCall0 F_long_rings_of (aCons (fLoc 0) (aCons (fBin hAdd (fLoc 1) (fCst (.int 1))) aNil))))
  (cRet (fUn hSum2 (fComp [3] (iRng1 (aCons (fBin hAdd (fLoc 0) (fCst (.int 1))) aNil)) (stNm 3) gYes (fBin (hI iMul) (fBin (hI iMul) (fApp (a2 iComb) (aCons (fLoc 0) (aCons (fLoc 3) aNil))) (fBin hIx (fLoc 2) (fLoc 3))) (fCall0 F_ways_to_rings_of (aCons (fLoc 0) (aCons (fLoc 3) aNil))))))))
def F_sure_count_of : Fn0 := run0 2 4 c_sure_count_of
theorem b_sure_count_of {f c : Addr} (G : Txt K mg) (C_long_rings_of : Cal P w K mg base 1 "long_rings_of" ["many", "least"] (sp0 K T F_long_rings_of)) (C_ways_to_rings_of : Cal P w K mg base 2 "ways_to_rings_of" ["size", "many"] (sp0 K T F_ways_to_rings_of)) : BodyOk P w K mg base T 2 "sure_count_of" s_sure_count_of f c ["size", "many", "rings", "people"] (c_sure_count_of) := by
  intro A outer s H E hr
  exact (ss_cons (ss_set (i := 2) sc_sure_count_of.nd (s_cal0 C_long_rings_of hr (sa_cons (s_loc 0) (sa_cons (s_op o_add b_add (s_loc 1) s_int) sa_nil))))
      (ss_one (ss_ret (s_callB1 (cr_sum2 rfl) u_sum2 (by rfl) G.g_sum bo_sum (s_comp rfl sc_sure_count_of.nd (si_range1 (by rfl) G.g_range (sa_cons (s_op o_add b_add (s_loc 0) s_int) sa_nil)) (own := [("people", 3)]) (blk_of (by rfl)) (g_nm 3) (by decide) (fun _ _ _ _ _ => (pg_name (i := 3) sc_sure_count_of.nd rfl (by first | exact Or.inl rfl | exact Or.inr rfl))) (fun _ _ _ _ _ => sts_nil) (fun _ _ _ _ _ => (s_op op_mulW b_mul (s_op op_mulW b_mul (s_appM cr_comb a_i2 (by rfl) G.m_comb (sa_cons (s_loc 0) (sa_cons (s_loc 3) sa_nil))) (s_ix o_ix b_ix (s_loc 2) (s_loc 3))) (s_cal0 C_ways_to_rings_of hr (sa_cons (s_loc 0) (sa_cons (s_loc 3) sa_nil))))))))))
abbrev s_sure_count : Stmt := top 59
theorem sc_sure_count : FnScope ["size", "many"] ["size", "many"] (defScope s_sure_count) := ⟨rfl, rfl, rfl, by decide +kernel, rfl, by decide +kernel, by decide +kernel⟩
def c_sure_count : Es :=
  (cSeq (cExp (fCall0 F_check_count (aCons (fLoc 0) (aCons (fCst (.int 1)) (aCons (fCst (.int (60))) aNil)))))
  (cSeq (cExp (fCall0 F_check_count (aCons (fLoc 1) (aCons (fCst (.int 0)) (aCons (fLoc 0) aNil)))))
  (cRet (fCall0 F_sure_count_of (aCons (fLoc 0) (aCons (fLoc 1) aNil))))))
def F_sure_count : Fn0 := run0 2 2 c_sure_count
theorem b_sure_count {f c : Addr} (G : Txt K mg) (C_check_count : Cal P w K mg base 3 "check_count" ["value", "least", "most"] (sp0 K T F_check_count)) (C_sure_count_of : Cal P w K mg base 3 "sure_count_of" ["size", "many"] (sp0 K T F_sure_count_of)) : BodyOk P w K mg base T 3 "sure_count" s_sure_count f c ["size", "many"] (c_sure_count) := by
  intro A outer s H E hr
  exact (ss_cons (ss_expr (s_cal0 C_check_count hr (sa_cons (s_loc 0) (sa_cons s_int (sa_cons (s_glob (by rfl) G.c_MOST_COUNTED.choose_spec) sa_nil)))))
      (ss_cons (ss_expr (s_cal0 C_check_count hr (sa_cons (s_loc 1) (sa_cons s_int (sa_cons (s_loc 0) sa_nil)))))
      (ss_one (ss_ret (s_cal0 C_sure_count_of hr (sa_cons (s_loc 0) (sa_cons (s_loc 1) sa_nil)))))))
abbrev s_are_unlike_holders : Stmt := top 15
theorem sc_are_unlike_holders : FnScope ["value", "size"] ["value", "size"] (defScope s_are_unlike_holders) := ⟨rfl, rfl, rfl, by decide +kernel, rfl, by decide +kernel, by decide +kernel⟩
def c_are_unlike_holders : Es :=
  (cSeq (cIf (gOr (gNot (fTst (fIsi "tuple" (fLoc 0)))) (gNot (fTst (fAllG 1 (iSeq (fLoc 0)) (stNm 2) gYes (fCall0 F_is_holder (aCons (fLoc 2) (aCons (fLoc 1) aNil))))))) (cRet (fCst (.bool false))) cNil)
  (cRet (fBin (hEq false) (fUn hLenSetX (fLoc 0)) (fUn hLen (fLoc 0)))))
def F_are_unlike_holders : Fn0 := run0 2 2 c_are_unlike_holders
theorem b_are_unlike_holders {f c : Addr} (G : Txt K mg) (C_is_holder : Cal P w K mg base 3 "is_holder" ["value", "size"] (sp0 K T F_is_holder)) {Pt : Addr} (TB : LamX.TabB base mg c Pt) (hP : Pt ∈ T) : BodyOk P w K mg base T 4 "are_unlike_holders" s_are_unlike_holders f c ["value", "size"] (c_are_unlike_holders) := by
  intro A outer s H E hr
  exact (ss_cons (ss_if (st_w (sw_or (st_not (st_val (s_isi (by rfl) G.g_isinstance (by rfl) G.g_tuple bo_tuple (s_loc 0)))) (sw_or1 (st_not (st_val (s_allG (k := 1) (N' := ["value", "size", "each"]) hr (by rfl) G.g_all bo_all (.base rfl TB) hP (gsc_of (by rfl)) rfl (si_seq (s_loc 0)) (g_nm 2) (by exact (by decide : ∀ i ∈ [2], 2 ≤ i)) (fun _ _ _ _ _ _ => (pg_name (i := 2) (noDup_of (by rfl)) rfl (by first | exact Or.inl rfl | exact Or.inr rfl))) (fun _ _ _ _ _ _ => sts_nil) (fun _ _ _ _ _ _ hN => (s_cal0 C_is_holder (room_gen hr _) (sa_cons (s_loc 2) (sa_cons (s_loc 1) sa_nil)))))))))) (ss_one (ss_ret s_bl)) ss_nil)
      (ss_one (ss_ret (s_cmp (op_eqD (hu4 hr)) b_eq (s_lenSetX (by rfl) G.g_len (by rfl) G.g_set rfl (s_loc 0)) (s_callB1 call_len_seq u_len (by rfl) G.g_len bo_len (s_loc 0))))))
abbrev s_is_order : Stmt := top 16
theorem sc_is_order : FnScope ["value", "size"] ["value", "size"] (defScope s_is_order) := ⟨rfl, rfl, rfl, by decide +kernel, rfl, by decide +kernel, by decide +kernel⟩
def c_is_order : Es :=
  (cRet (fAnd (fCall0 F_are_unlike_holders (aCons (fLoc 0) (aCons (fLoc 1) aNil))) (fBin (hInX true) (fCst (.int (-1))) (fLoc 0))))
def F_is_order : Fn0 := run0 2 2 c_is_order
theorem b_is_order {f c : Addr} (G : Txt K mg) (C_are_unlike_holders : Cal P w K mg base 5 "are_unlike_holders" ["value", "size"] (sp0 K T F_are_unlike_holders)) : BodyOk P w K mg base T 5 "is_order" s_is_order f c ["value", "size"] (c_is_order) := by
  intro A outer s H E hr
  exact (ss_one (ss_ret (s_and (s_cal0 C_are_unlike_holders hr (sa_cons (s_loc 0) (sa_cons (s_loc 1) sa_nil))) (s_one (s_cmp (op_notInX (hu5 hr)) b_notInX (s_glob (by rfl) G.c_OFFICE.choose_spec) (s_loc 0))))))
abbrev s_is_lot : Stmt := top 17
theorem sc_is_lot : FnScope ["value", "size"] ["value", "size"] (defScope s_is_lot) := ⟨rfl, rfl, rfl, by decide +kernel, rfl, by decide +kernel, by decide +kernel⟩
def c_is_lot : Es :=
  (cRet (fAnd (fCall0 F_is_order (aCons (fLoc 0) (aCons (fLoc 1) aNil))) (fBin (hEq false) (fUn hList (fLoc 0)) (fUn hSort3 (fLoc 0)))))
def F_is_lot : Fn0 := run0 2 2 c_is_lot
theorem b_is_lot {f c : Addr} (G : Txt K mg) (C_is_order : Cal P w K mg base 6 "is_order" ["value", "size"] (sp0 K T F_is_order)) : BodyOk P w K mg base T 6 "is_lot" s_is_lot f c ["value", "size"] (c_is_lot) := by
  intro A outer s H E hr
  exact (ss_one (ss_ret (s_and (s_cal0 C_is_order hr (sa_cons (s_loc 0) (sa_cons (s_loc 1) sa_nil))) (s_one (s_cmp (op_eqD (hu4 hr)) b_eq (s_callTy1 call_list_of u_list (by rfl) G.g_list bo_list (s_loc 0)) (s_callB1 (call_sort3 (hu5 hr)) u_sort3 (by rfl) G.g_sorted bo_sorted (s_loc 0)))))))
abbrev s_check_lot : Stmt := top 19
theorem sc_check_lot : FnScope ["value", "size"] ["value", "size"] (defScope s_check_lot) := ⟨rfl, rfl, rfl, by decide +kernel, rfl, by decide +kernel, by decide +kernel⟩
def c_check_lot : Es :=
  (cIf (gNot (fTst (fCall0 F_is_lot (aCons (fLoc 0) (aCons (fLoc 1) aNil))))) cNever cNil)
def F_check_lot : Fn0 := run0 2 2 c_check_lot
theorem b_check_lot {f c : Addr} (G : Txt K mg) (C_is_lot : Cal P w K mg base 7 "is_lot" ["value", "size"] (sp0 K T F_is_lot)) : BodyOk P w K mg base T 7 "check_lot" s_check_lot f c ["value", "size"] (c_check_lot) := by
  intro A outer s H E hr
  exact (ss_one (ss_if (st_not (st_val (s_cal0 C_is_lot hr (sa_cons (s_loc 0) (sa_cons (s_loc 1) sa_nil))))) (ss_one ss_never) ss_nil))
abbrev s_holders : Stmt := top 43
theorem sc_holders : FnScope ["deputies", "gone"] ["deputies", "gone"] (defScope s_holders) := ⟨rfl, rfl, rfl, by decide +kernel, rfl, by decide +kernel, by decide +kernel⟩
def c_holders : Es :=
  (cSeq (cExp (fCall0 F_check_deputies (aCons (fLoc 0) aNil)))
  (cSeq (cExp (fCall0 F_check_lot (aCons (fLoc 1) (aCons (fUn hLen (fLoc 0)) aNil))))
  (cRet (fCall0 F_holders_of (aCons (fLoc 0) (aCons (fLoc 1) aNil))))))
def F_holders : Fn0 := run0 2 2 c_holders
theorem b_holders {f c : Addr} (G : Txt K mg) (C_check_deputies : Cal P w K mg base 6 "check_deputies" ["value"] (sp0 K T F_check_deputies)) (C_check_lot : Cal P w K mg base 8 "check_lot" ["value", "size"] (sp0 K T F_check_lot)) (C_holders_of : Cal P w K mg base 4 "holders_of" ["deputies", "gone"] (sp0 K T F_holders_of)) : BodyOk P w K mg base T 8 "holders" s_holders f c ["deputies", "gone"] (c_holders) := by
  intro A outer s H E hr
  exact (ss_cons (ss_expr (s_cal0 C_check_deputies hr (sa_cons (s_loc 0) sa_nil)))
      (ss_cons (ss_expr (s_cal0 C_check_lot hr (sa_cons (s_loc 1) (sa_cons (s_callB1 call_len_seq u_len (by rfl) G.g_len bo_len (s_loc 0)) sa_nil))))
      (ss_one (ss_ret (s_cal0 C_holders_of hr (sa_cons (s_loc 0) (sa_cons (s_loc 1) sa_nil)))))))
abbrev s_law : Stmt := top 80
theorem sc_law : FnScope ["script", "row", "size", "many", "every", "total", "office", "one", "chances", "due", "k", "part", "j", "gone", "out", "some"] ["script"] (defScope s_law) := ⟨rfl, rfl, rfl, by decide +kernel, rfl, by decide +kernel, by decide +kernel⟩
def w_0 : Es := (cAsg 1 (fLst (aCons (fLoc 0) (aCons (fCst (.int 0)) (aCons (fCst (.int 13880)) (aCons (fCst (.int 0)) aNil))))))
def w_1 : Es := (cAsg 2 (fBin hAdd (fCst (.int 1)) (fCall1 F__law_taken 1 (aCons (fCst (.int 3)) aNil))))
def w_2 : Es := (cParR [3, 4] (rCons (fBin hAdd (fCst (.int 1)) (fCall1 F__law_taken 1 (aCons (fLoc 2) aNil))) (rCons (fCall0 F__law_every (aCons (fLoc 2) aNil)) rNil)))
def w_3 : Es := (cUnp [5, 6] (fTup (aCons (fTup (aCons (fCst (.int 0)) (aCons (fCst (.int 1)) aNil))) (aCons (fTup (aCons (fCst (.int 0)) (aCons (fCst (.int 1)) aNil))) aNil))))
def w_4 : Es := (cFor (iSeq (fLoc 4)) (stNm 7) (cSeq (cAsg 5 (fCall0 F__law_plus (aCons (fLoc 5) (aCons (fCall0 F__law_by (aCons (fTup (aCons (fCst (.int 1)) (aCons (fUn hLen (fLoc 4)) aNil))) (aCons (fCall0 F_mean_handings (aCons (fLoc 7) aNil)) aNil))) aNil))))
  (cAsg 6 (fCall0 F__law_plus (aCons (fLoc 6) (aCons (fCall0 F__law_by (aCons (fTup (aCons (fCst (.int 1)) (aCons (fUn hLen (fLoc 4)) aNil))) (aCons (fBin hIx (fCall0 F_mean_loads (aCons (fLoc 7) (aCons (fLoc 3) aNil))) (fLoc 2)) aNil))) aNil))))))
def w_5 : Es := (cParR [8, 9] (rCons (fCall0 F_length_chances (aCons (fLoc 2) aNil)) (rCons (fTup (aCons (fCst (.int 0)) (aCons (fCst (.int 1)) aNil))) rNil)))
def w_6 : Es := (cFor (iRng1 (aCons (fLoc 2) aNil)) (stNm 10) (cSeq (cAsg 11 (fTup (aCons (fCst (.int 0)) (aCons (fCst (.int 1)) aNil))))
  (cSeq (cFor (iRng1 (aCons (fBin hAdd (fLoc 10) (fCst (.int 1))) aNil)) (stNm 12) (cAsg 11 (fCall0 F__law_plus (aCons (fLoc 11) (aCons (fTup (aCons (fCst (.int 1)) (aCons (fBin hAdd (fLoc 12) (fCst (.int 1))) aNil))) aNil)))))
  (cAsg 9 (fCall0 F__law_plus (aCons (fLoc 9) (aCons (fCall0 F__law_by (aCons (fBin hIx (fLoc 8) (fLoc 10)) (aCons (fLoc 11) aNil))) aNil)))))))
def w_7 : Es := (cIf (gOr (fTst (fBin (hEq true) (fLoc 5) (fCall0 F__law_by (aCons (fTup (aCons (fLoc 2) (aCons (fCst (.int 1)) aNil))) (aCons (fLoc 9) aNil))))) (gOr (fTst (fBin (hEq true) (fLoc 6) (fBin hIx (fCall0 F_random_loads (aCons (fLoc 2) (aCons (fLoc 3) aNil))) (fCst (.int 1))))) (fTst (fBin (hEq true) (fUn hLen (fLoc 4)) (fCall0 F_naming_count (aCons (fLoc 2) aNil)))))) (cRet (fCst (.bool false))) cNil)
def w_8 : Es := (cAsg 13 (fTupR1 (fLoc 3)))
def w_9 : Es := (cAsg 14 (fUn hLen (fComp [7] (iSeq (fLoc 4)) (stNm 7) (fTst (fBin (hEq false) (fBin hIx (fCall0 F_holders (aCons (fLoc 7) (aCons (fLoc 13) aNil))) (fCst (.int 0))) (fUn hNeg (fCst (.int 1))))) (fLoc 7))))
def w_10 : Es := (cIf (fTst (fBin (hEq true) (fCall0 F_random_out (aCons (fLoc 2) (aCons (fLoc 3) aNil))) (fCall0 F__law_ratio (aCons (fLoc 14) (aCons (fUn hLen (fLoc 4)) aNil))))) (cRet (fCst (.bool false))) cNil)
def w_11 : Es := (cAsg 15 (fComp [7] (iSeq (fLoc 4)) (stNm 7) gYes (fCall0 F_surest (aCons (fLoc 7) aNil))))
def w_12 : Es := (cIf (fTst (fBin (hEq true) (fComp [10] (iRng1 (aCons (fBin hAdd (fLoc 2) (fCst (.int 1))) aNil)) (stNm 10) (fTst (fBin (hEq true) (fCall0 F_sure_count (aCons (fLoc 2) (aCons (fLoc 10) aNil))) (fUn hLen (fComp [7] (iSeq (fLoc 15)) (stNm 7) (fTst (fBin (hB iGe) (fLoc 7) (fLoc 10))) (fLoc 7))))) (fLoc 10)) (fLst aNil))) (cRet (fCst (.bool false))) cNil)
def w_13 : Es := (cAsg 7 (fCall1 F__law_pick 1 (aCons (fLoc 4) aNil)))
def w_14 : Es := (cRet (fAnd (fBin (hB iGe) (fCall0 F_safe_count (aCons (fLoc 7) aNil)) (fCst (.int 1))) (fNot (fCall0 F__law_less (aCons (fCall0 F_mean_chain (aCons (fLoc 2) aNil)) (aCons (fTup (aCons (fCst (.int 1)) (aCons (fCst (.int 1)) aNil))) aNil))))))
def r_14 : Es := w_14
def r_13 : Es := cSeq w_13 r_14
def r_12 : Es := cSeq w_12 r_13
def r_11 : Es := cSeq w_11 r_12
def r_10 : Es := cSeq w_10 r_11
def r_9 : Es := cSeq w_9 r_10
def r_8 : Es := cSeq w_8 r_9
def r_7 : Es := cSeq w_7 r_8
def r_6 : Es := cSeq w_6 r_7
def r_5 : Es := cSeq w_5 r_6
def r_4 : Es := cSeq w_4 r_5
def r_3 : Es := cSeq w_3 r_4
def r_2 : Es := cSeq w_2 r_3
def r_1 : Es := cSeq w_1 r_2
def r_0 : Es := cSeq w_0 r_1
def c_law : Es := r_0
theorem b_law {f c : Addr} (G : Txt K mg) (C__law_pick : Cal P w K mg base 2 "_law_pick" ["row", "things"] (sp1 K T F__law_pick)) (C__law_taken : Cal P w K mg base 1 "_law_taken" ["row", "many"] (sp1 K T F__law_taken)) (C__law_every : Cal P w K mg base 1 "_law_every" ["size"] (sp0 K T F__law_every)) (C__law_plus : Cal P w K mg base 2 "_law_plus" ["one", "other"] (sp0 K T F__law_plus)) (C_length_chances : Cal P w K mg base 4 "length_chances" ["size"] (sp0 K T F_length_chances)) (C_random_out : Cal P w K mg base 4 "random_out" ["size", "many"] (sp0 K T F_random_out)) (C__law_ratio : Cal P w K mg base 1 "_law_ratio" ["top", "bottom"] (sp0 K T F__law_ratio)) (C_surest : Cal P w K mg base 7 "surest" ["deputies"] (sp0 K T F_surest)) (C__law_by : Cal P w K mg base 2 "_law_by" ["one", "other"] (sp0 K T F__law_by)) (C_naming_count : Cal P w K mg base 4 "naming_count" ["size"] (sp0 K T F_naming_count)) (C_safe_count : Cal P w K mg base 7 "safe_count" ["deputies"] (sp0 K T F_safe_count)) (C__law_less : Cal P w K mg base 1 "_law_less" ["one", "other"] (sp0 K T F__law_less)) (C_mean_handings : Cal P w K mg base 7 "mean_handings" ["deputies"] (sp0 K T F_mean_handings)) (C_random_loads : Cal P w K mg base 4 "random_loads" ["size", "many"] (sp0 K T F_random_loads)) (C_mean_chain : Cal P w K mg base 4 "mean_chain" ["size"] (sp0 K T F_mean_chain)) (C_mean_loads : Cal P w K mg base 7 "mean_loads" ["deputies", "many"] (sp0 K T F_mean_loads)) (C_sure_count : Cal P w K mg base 4 "sure_count" ["size", "many"] (sp0 K T F_sure_count)) (C_holders : Cal P w K mg base 9 "holders" ["deputies", "gone"] (sp0 K T F_holders)) : BodyOk P w K mg base T 9 "law" s_law f c ["script", "row", "size", "many", "every", "total", "office", "one", "chances", "due", "k", "part", "j", "gone", "out", "some"] (c_law) := by
  intro A outer s H E hr
  exact (ss_cons (ss_set (i := 1) sc_law.nd (s_lst (sa_cons (s_loc 0) (sa_cons s_int (sa_cons s_int (sa_cons s_int sa_nil))))))
      (ss_cons (ss_set (i := 2) sc_law.nd (s_op o_add b_add s_int (s_cal1 1 C__law_taken hr (sa_cons s_int sa_nil))))
      (ss_cons (ss_parR2 (i := 3) (j := 4) rfl sc_law.nd (sr_cons (s_op o_add b_add s_int (s_cal1 1 C__law_taken hr (sa_cons (s_loc 2) sa_nil))) (sr_cons (s_cal0 C__law_every hr (sa_cons (s_loc 2) sa_nil)) sr_nil)))
      (ss_cons (ss_unp (is := [5, 6]) rfl (s_tup (sa_cons (s_tup (sa_cons s_int (sa_cons s_int sa_nil))) (sa_cons (s_tup (sa_cons s_int (sa_cons s_int sa_nil))) sa_nil))) (pgs_cons (pg_name (i := 5) sc_law.nd rfl (by first | exact Or.inl rfl | exact Or.inr rfl)) (pgs_cons (pg_name (i := 6) sc_law.nd rfl (by first | exact Or.inl rfl | exact Or.inr rfl)) pgs_nil)))
      (ss_cons (ss_for PassesOwn.never rfl (si_seq (s_loc 4)) (pg_name (i := 7) sc_law.nd rfl (by first | exact Or.inl rfl | exact Or.inr rfl)) (g_nm 7) (ss_cons (ss_set (i := 5) sc_law.nd (s_cal0 C__law_plus hr (sa_cons (s_loc 5) (sa_cons (s_cal0 C__law_by hr (sa_cons (s_tup (sa_cons s_int (sa_cons (s_callB1 call_len_seq u_len (by rfl) G.g_len bo_len (s_loc 4)) sa_nil))) (sa_cons (s_cal0 C_mean_handings hr (sa_cons (s_loc 7) sa_nil)) sa_nil))) sa_nil))))
      (ss_one (ss_set (i := 6) sc_law.nd (s_cal0 C__law_plus hr (sa_cons (s_loc 6) (sa_cons (s_cal0 C__law_by hr (sa_cons (s_tup (sa_cons s_int (sa_cons (s_callB1 call_len_seq u_len (by rfl) G.g_len bo_len (s_loc 4)) sa_nil))) (sa_cons (s_ix o_ix b_ix (s_cal0 C_mean_loads hr (sa_cons (s_loc 7) (sa_cons (s_loc 3) sa_nil))) (s_loc 2)) sa_nil))) sa_nil)))))))
      (ss_cons (ss_parR2 (i := 8) (j := 9) rfl sc_law.nd (sr_cons (s_cal0 C_length_chances hr (sa_cons (s_loc 2) sa_nil)) (sr_cons (s_tup (sa_cons s_int (sa_cons s_int sa_nil))) sr_nil)))
      (ss_cons (ss_for PassesOwn.never rfl (si_range1 (by rfl) G.g_range (sa_cons (s_loc 2) sa_nil)) (pg_name (i := 10) sc_law.nd rfl (by first | exact Or.inl rfl | exact Or.inr rfl)) (g_nm 10) (ss_cons (ss_set (i := 11) sc_law.nd (s_tup (sa_cons s_int (sa_cons s_int sa_nil))))
      (ss_cons (ss_for PassesOwn.never rfl (si_range1 (by rfl) G.g_range (sa_cons (s_op o_add b_add (s_loc 10) s_int) sa_nil)) (pg_name (i := 12) sc_law.nd rfl (by first | exact Or.inl rfl | exact Or.inr rfl)) (g_nm 12) (ss_one (ss_set (i := 11) sc_law.nd (s_cal0 C__law_plus hr (sa_cons (s_loc 11) (sa_cons (s_tup (sa_cons s_int (sa_cons (s_op o_add b_add (s_loc 12) s_int) sa_nil))) sa_nil))))))
      (ss_one (ss_set (i := 9) sc_law.nd (s_cal0 C__law_plus hr (sa_cons (s_loc 9) (sa_cons (s_cal0 C__law_by hr (sa_cons (s_ix o_ix b_ix (s_loc 8) (s_loc 10)) (sa_cons (s_loc 11) sa_nil))) sa_nil))))))))
      (ss_cons (ss_if (st_w (sw_or (st_cmp (op_neD (hu4 hr)) b_ne (s_loc 5) (s_cal0 C__law_by hr (sa_cons (s_tup (sa_cons (s_loc 2) (sa_cons s_int sa_nil))) (sa_cons (s_loc 9) sa_nil)))) (sw_or (st_cmp (op_neD (hu4 hr)) b_ne (s_loc 6) (s_ix o_ix b_ix (s_cal0 C_random_loads hr (sa_cons (s_loc 2) (sa_cons (s_loc 3) sa_nil))) s_int)) (sw_or1 (st_cmp (op_neD (hu4 hr)) b_ne (s_callB1 call_len_seq u_len (by rfl) G.g_len bo_len (s_loc 4)) (s_cal0 C_naming_count hr (sa_cons (s_loc 2) sa_nil))))))) (ss_one (ss_ret s_bl)) ss_nil)
      (ss_cons (ss_set (i := 13) sc_law.nd (s_tupR1 rfl (by rfl) G.g_tuple (by rfl) G.g_range (s_loc 3)))
      (ss_cons (ss_set (i := 14) sc_law.nd (s_callB1 call_len_seq u_len (by rfl) G.g_len bo_len (s_comp rfl sc_law.nd (si_seq (s_loc 4)) (own := [("one", 7)]) (blk_of (by rfl)) (g_nm 7) (by decide) (fun _ _ _ _ _ => (pg_name (i := 7) sc_law.nd rfl (by first | exact Or.inl rfl | exact Or.inr rfl))) (fun _ _ _ _ _ => (sts_one (st_cmp (op_eqD (hu4 hr)) b_eq (s_ix o_ix b_ix (s_cal0 C_holders hr (sa_cons (s_loc 7) (sa_cons (s_loc 13) sa_nil))) s_int) (s_neg s_int)))) (fun _ _ _ _ _ => (s_loc 7)))))
      (ss_cons (ss_if (st_cmp (op_neD (hu4 hr)) b_ne (s_cal0 C_random_out hr (sa_cons (s_loc 2) (sa_cons (s_loc 3) sa_nil))) (s_cal0 C__law_ratio hr (sa_cons (s_loc 14) (sa_cons (s_callB1 call_len_seq u_len (by rfl) G.g_len bo_len (s_loc 4)) sa_nil)))) (ss_one (ss_ret s_bl)) ss_nil)
      (ss_cons (ss_set (i := 15) sc_law.nd (s_comp rfl sc_law.nd (si_seq (s_loc 4)) (own := [("one", 7)]) (blk_of (by rfl)) (g_nm 7) (by decide) (fun _ _ _ _ _ => (pg_name (i := 7) sc_law.nd rfl (by first | exact Or.inl rfl | exact Or.inr rfl))) (fun _ _ _ _ _ => sts_nil) (fun _ _ _ _ _ => (s_cal0 C_surest hr (sa_cons (s_loc 7) sa_nil)))))
      (ss_cons (ss_if (st_cmp (op_neD (hu4 hr)) b_ne (s_comp rfl sc_law.nd (si_range1 (by rfl) G.g_range (sa_cons (s_op o_add b_add (s_loc 2) s_int) sa_nil)) (own := [("k", 10)]) (blk_of (by rfl)) (g_nm 10) (by decide) (fun _ _ _ _ _ => (pg_name (i := 10) sc_law.nd rfl (by first | exact Or.inl rfl | exact Or.inr rfl))) (fun _ _ _ _ _ => (sts_one (st_cmp (op_neD (hu4 hr)) b_ne (s_cal0 C_sure_count hr (sa_cons (s_loc 2) (sa_cons (s_loc 10) sa_nil))) (s_callB1 call_len_seq u_len (by rfl) G.g_len bo_len (s_comp rfl sc_law.nd (si_seq (s_loc 15)) (own := [("one", 7)]) (blk_of (by rfl)) (g_nm 7) (by decide) (fun _ _ _ _ _ => (pg_name (i := 7) sc_law.nd rfl (by first | exact Or.inl rfl | exact Or.inr rfl))) (fun _ _ _ _ _ => (sts_one (st_cmp op_ge b_ge (s_loc 7) (s_loc 10)))) (fun _ _ _ _ _ => (s_loc 7))))))) (fun _ _ _ _ _ => (s_loc 10))) (s_lst sa_nil)) (ss_one (ss_ret s_bl)) ss_nil)
      (ss_cons (ss_set (i := 7) sc_law.nd (s_cal1 1 C__law_pick hr (sa_cons (s_loc 4) sa_nil)))
      (ss_one (ss_ret (s_and (s_cmp op_ge b_ge (s_cal0 C_safe_count hr (sa_cons (s_loc 7) sa_nil)) s_int) (s_one (s_not (s_cal0 C__law_less hr (sa_cons (s_cal0 C_mean_chain hr (sa_cons (s_loc 2) sa_nil)) (sa_cons (s_tup (sa_cons s_int (sa_cons s_int sa_nil))) sa_nil))))))))))))))))))))))
def xs_ : List Str := ["length_chances", "is_deputies", "least_chain_of", "holders_of", "loads_of", "mean_loads", "are_unlike_holders"]
theorem all_mk {l : PySem.W.OpenLaw} {w : World} {K : PySem.W.Frag} {h : Heap} {mg : Str → Option Value} {fa f0 f1 f2 f3 f4 f5 f6 f7 f8 f9 f10 f11 f12 f13 f14 f15 f16 f17 f18 f19 f20 f21 f22 f23 f24 f25 f26 f27 f28 f29 f30 f31 f32 f33 f34 f35 f36 f37 f38 f39 f40 f41 f42 f43 f44 f45 f46 cc0 cc1 cc2 cc3 cc4 cc5 cc6 cc7 cc8 cc9 cc10 cc11 cc12 cc13 cc14 cc15 cc16 cc17 cc18 cc19 cc20 cc21 cc22 cc23 cc24 cc25 cc26 cc27 cc28 cc29 cc30 cc31 cc32 cc33 cc34 cc35 cc36 cc37 cc38 cc39 cc40 cc41 cc42 cc43 cc44 cc45 cc46 P12 P16 P19 P25 P34 P36 P41 : Addr} (X : K.In h) (Gn : h.Ns mainGlobals mg) (hfa : mg "law" = some (.ref fa)) (TB : TabsOf K h xs_)
    {od0 od1 od2 od3 od4 od5 od6 od7 od8 od9 od10 od11 od12 od13 od14 od15 od16 od17 od18 od19 od20 od21 od22 od23 od24 od25 od26 od27 od28 od29 od30 od31 od32 od33 od34 od35 od36 od37 od38 od39 od40 od41 od42 od43 od44 od45 od46 an0 an1 an2 an3 an4 an5 an6 an7 an8 an9 an10 an11 an12 an13 an14 an15 an16 an17 an18 an19 an20 an21 an22 an23 an24 an25 an26 an27 an28 an29 an30 an31 an32 an33 an34 an35 an36 an37 an38 an39 an40 an41 an42 an43 an44 an45 an46 dq12 dq16 dq19 dq25 dq34 dq36 dq41 : Option Addr} {sl0 sl1 sl2 sl3 sl4 sl5 sl6 sl7 sl8 sl9 sl10 sl11 sl12 sl13 sl14 sl15 sl16 sl17 sl18 sl19 sl20 sl21 sl22 sl23 sl24 sl25 sl26 sl27 sl28 sl29 sl30 sl31 sl32 sl33 sl34 sl35 sl36 sl37 sl38 sl39 sl40 sl41 sl42 sl43 sl44 sl45 sl46 sq12 sq16 sq19 sq25 sq34 sq36 sq41 : Array (Option Value)} {oq12 oq16 oq19 oq25 oq34 oq36 oq41 oc0 oc1 oc2 oc3 oc4 oc5 oc6 oc7 oc8 oc9 oc10 oc11 oc12 oc13 oc14 oc15 oc16 oc17 oc18 oc19 oc20 oc21 oc22 oc23 oc24 oc25 oc26 oc27 oc28 oc29 oc30 oc31 oc32 oc33 oc34 oc35 oc36 oc37 oc38 oc39 oc40 oc41 oc42 oc43 oc44 oc45 oc46 kV0 kV1 kV2 kV3 kV4 kV5 kV6 kV7 kV8 kV9 kV10 kV11 kV12 kV13 kV14 kV15 kV16 kV17 kV18 kV19 kV20 kV21 kV22 kV23 kV24 kV25 kV26 kV27 kV28 kV29 kV30 kV31 kV32 kV33 kV34 kV35 kV36 kV37 kV38 kV39 kV40 kV41 kV42 kV43 kV44 kV45 kV46 dc0 dc1 dc2 dc3 dc4 dc5 dc6 dc7 dc8 dc9 dc10 dc11 dc12 dc13 dc14 dc15 dc16 dc17 dc18 dc19 dc20 dc21 dc22 dc23 dc24 dc25 dc26 dc27 dc28 dc29 dc30 dc31 dc32 dc33 dc34 dc35 dc36 dc37 dc38 dc39 dc40 dc41 dc42 dc43 dc44 dc45 dc46 pm0 pm1 pm2 pm3 pm4 pm5 pm6 pm7 pm8 pm9 pm10 pm11 pm12 pm13 pm14 pm15 pm16 pm17 pm18 pm19 pm20 pm21 pm22 pm23 pm24 pm25 pm26 pm27 pm28 pm29 pm30 pm31 pm32 pm33 pm34 pm35 pm36 pm37 pm38 pm39 pm40 pm41 pm42 pm43 pm44 pm45 pm46 ct0 ct1 ct2 ct3 ct4 ct5 ct6 ct7 ct8 ct9 ct10 ct11 ct12 ct13 ct14 ct15 ct16 ct17 ct18 ct19 ct20 ct21 ct22 ct23 ct24 ct25 ct26 ct27 ct28 ct29 ct30 ct31 ct32 ct33 ct34 ct35 ct36 ct37 ct38 ct39 ct40 ct41 ct42 ct43 ct44 ct45 ct46 : Value} {vq12 vq16 vq19 vq25 vq34 vq36 vq41 : Array Value} {tk_MOST_COUNTED tk_MOST_PEOPLE tk_OFFICE : Tok} {h_NONE_AT_ALL : Addr} {n_NONE_AT_ALL : Nat} {j_NONE_AT_ALL : Array (Option Value)} {t0_NONE_AT_ALL t1_NONE_AT_ALL : Tok} {h_SURE : Addr} {n_SURE : Nat} {j_SURE : Array (Option Value)} {t0_SURE t1_SURE : Tok}
    (a0 : PySem.W.nsIn K mainGlobals "_law_taken" = some (some (.ref f0))) (l0 : K.lookup f0 = some ⟨oc0, od0, .func (PySem.W.fnOf "_law_taken" "_law_taken" (defArgs s__law_taken) (defBody s__law_taken) (defScope s__law_taken) .none kV0 dc0 pm0 an0 (.ref cc0) ct0), sl0⟩)
    (d0 : PySem.W.codeIn K (.ref cc0) "_law_taken" = true) (k0 : PySem.W.keepIn K (.ref f0) = true)
    (a1 : PySem.W.nsIn K mainGlobals "_law_pick" = some (some (.ref f1))) (l1 : K.lookup f1 = some ⟨oc1, od1, .func (PySem.W.fnOf "_law_pick" "_law_pick" (defArgs s__law_pick) (defBody s__law_pick) (defScope s__law_pick) .none kV1 dc1 pm1 an1 (.ref cc1) ct1), sl1⟩)
    (d1 : PySem.W.codeIn K (.ref cc1) "_law_pick" = true) (k1 : PySem.W.keepIn K (.ref f1) = true)
    (a2 : PySem.W.nsIn K mainGlobals "_law_every" = some (some (.ref f2))) (l2 : K.lookup f2 = some ⟨oc2, od2, .func (PySem.W.fnOf "_law_every" "_law_every" (defArgs s__law_every) (defBody s__law_every) (defScope s__law_every) .none kV2 dc2 pm2 an2 (.ref cc2) ct2), sl2⟩)
    (d2 : PySem.W.codeIn K (.ref cc2) "_law_every" = true) (k2 : PySem.W.keepIn K (.ref f2) = true)
    (a3 : PySem.W.nsIn K mainGlobals "_law_ratio" = some (some (.ref f3))) (l3 : K.lookup f3 = some ⟨oc3, od3, .func (PySem.W.fnOf "_law_ratio" "_law_ratio" (defArgs s__law_ratio) (defBody s__law_ratio) (defScope s__law_ratio) .none kV3 dc3 pm3 an3 (.ref cc3) ct3), sl3⟩)
    (d3 : PySem.W.codeIn K (.ref cc3) "_law_ratio" = true) (k3 : PySem.W.keepIn K (.ref f3) = true)
    (a4 : PySem.W.nsIn K mainGlobals "_law_plus" = some (some (.ref f4))) (l4 : K.lookup f4 = some ⟨oc4, od4, .func (PySem.W.fnOf "_law_plus" "_law_plus" (defArgs s__law_plus) (defBody s__law_plus) (defScope s__law_plus) .none kV4 dc4 pm4 an4 (.ref cc4) ct4), sl4⟩)
    (d4 : PySem.W.codeIn K (.ref cc4) "_law_plus" = true) (k4 : PySem.W.keepIn K (.ref f4) = true)
    (a5 : PySem.W.nsIn K mainGlobals "is_plain_integer" = some (some (.ref f5))) (l5 : K.lookup f5 = some ⟨oc5, od5, .func (PySem.W.fnOf "is_plain_integer" "is_plain_integer" (defArgs s_is_plain_integer) (defBody s_is_plain_integer) (defScope s_is_plain_integer) .none kV5 dc5 pm5 an5 (.ref cc5) ct5), sl5⟩)
    (d5 : PySem.W.codeIn K (.ref cc5) "is_plain_integer" = true) (k5 : PySem.W.keepIn K (.ref f5) = true)
    (a6 : PySem.W.nsIn K mainGlobals "is_integer_from" = some (some (.ref f6))) (l6 : K.lookup f6 = some ⟨oc6, od6, .func (PySem.W.fnOf "is_integer_from" "is_integer_from" (defArgs s_is_integer_from) (defBody s_is_integer_from) (defScope s_is_integer_from) .none kV6 dc6 pm6 an6 (.ref cc6) ct6), sl6⟩)
    (d6 : PySem.W.codeIn K (.ref cc6) "is_integer_from" = true) (k6 : PySem.W.keepIn K (.ref f6) = true)
    (a7 : PySem.W.nsIn K mainGlobals "check_count" = some (some (.ref f7))) (l7 : K.lookup f7 = some ⟨oc7, od7, .func (PySem.W.fnOf "check_count" "check_count" (defArgs s_check_count) (defBody s_check_count) (defScope s_check_count) .none kV7 dc7 pm7 an7 (.ref cc7) ct7), sl7⟩)
    (d7 : PySem.W.codeIn K (.ref cc7) "check_count" = true) (k7 : PySem.W.keepIn K (.ref f7) = true)
    (a8 : PySem.W.nsIn K mainGlobals "power_of" = some (some (.ref f8))) (l8 : K.lookup f8 = some ⟨oc8, od8, .func (PySem.W.fnOf "power_of" "power_of" (defArgs s_power_of) (defBody s_power_of) (defScope s_power_of) .none kV8 dc8 pm8 an8 (.ref cc8) ct8), sl8⟩)
    (d8 : PySem.W.codeIn K (.ref cc8) "power_of" = true) (k8 : PySem.W.keepIn K (.ref f8) = true)
    (a9 : PySem.W.nsIn K mainGlobals "naming_count_of" = some (some (.ref f9))) (l9 : K.lookup f9 = some ⟨oc9, od9, .func (PySem.W.fnOf "naming_count_of" "naming_count_of" (defArgs s_naming_count_of) (defBody s_naming_count_of) (defScope s_naming_count_of) .none kV9 dc9 pm9 an9 (.ref cc9) ct9), sl9⟩)
    (d9 : PySem.W.codeIn K (.ref cc9) "naming_count_of" = true) (k9 : PySem.W.keepIn K (.ref f9) = true)
    (a10 : PySem.W.nsIn K mainGlobals "ratio" = some (some (.ref f10))) (l10 : K.lookup f10 = some ⟨oc10, od10, .func (PySem.W.fnOf "ratio" "ratio" (defArgs s_ratio) (defBody s_ratio) (defScope s_ratio) .none kV10 dc10 pm10 an10 (.ref cc10) ct10), sl10⟩)
    (d10 : PySem.W.codeIn K (.ref cc10) "ratio" = true) (k10 : PySem.W.keepIn K (.ref f10) = true)
    (a11 : PySem.W.nsIn K mainGlobals "chain_total_of" = some (some (.ref f11))) (l11 : K.lookup f11 = some ⟨oc11, od11, .func (PySem.W.fnOf "chain_total_of" "chain_total_of" (defArgs s_chain_total_of) (defBody s_chain_total_of) (defScope s_chain_total_of) .none kV11 dc11 pm11 an11 (.ref cc11) ct11), sl11⟩)
    (d11 : PySem.W.codeIn K (.ref cc11) "chain_total_of" = true) (k11 : PySem.W.keepIn K (.ref f11) = true)
    (a12 : PySem.W.nsIn K mainGlobals "length_chances" = some (some (.ref f12))) (l12 : K.lookup f12 = some ⟨oc12, od12, .func (PySem.W.fnOf "length_chances" "length_chances" (defArgs s_length_chances) (defBody s_length_chances) (defScope s_length_chances) .none kV12 dc12 pm12 an12 (.ref cc12) ct12), sl12⟩)
    (d12 : PySem.W.codeIn K (.ref cc12) "length_chances" = true) (k12 : PySem.W.keepIn K (.ref f12) = true)
    (q12 : K.lookup cc12 = some ⟨oq12, dq12, .fields vq12, sq12⟩) (r12 : vq12[11]? = some (.ref P12))
    (a13 : PySem.W.nsIn K mainGlobals "chance_of_out" = some (some (.ref f13))) (l13 : K.lookup f13 = some ⟨oc13, od13, .func (PySem.W.fnOf "chance_of_out" "chance_of_out" (defArgs s_chance_of_out) (defBody s_chance_of_out) (defScope s_chance_of_out) .none kV13 dc13 pm13 an13 (.ref cc13) ct13), sl13⟩)
    (d13 : PySem.W.codeIn K (.ref cc13) "chance_of_out" = true) (k13 : PySem.W.keepIn K (.ref f13) = true)
    (a14 : PySem.W.nsIn K mainGlobals "random_out" = some (some (.ref f14))) (l14 : K.lookup f14 = some ⟨oc14, od14, .func (PySem.W.fnOf "random_out" "random_out" (defArgs s_random_out) (defBody s_random_out) (defScope s_random_out) .none kV14 dc14 pm14 an14 (.ref cc14) ct14), sl14⟩)
    (d14 : PySem.W.codeIn K (.ref cc14) "random_out" = true) (k14 : PySem.W.keepIn K (.ref f14) = true)
    (a15 : PySem.W.nsIn K mainGlobals "is_holder" = some (some (.ref f15))) (l15 : K.lookup f15 = some ⟨oc15, od15, .func (PySem.W.fnOf "is_holder" "is_holder" (defArgs s_is_holder) (defBody s_is_holder) (defScope s_is_holder) .none kV15 dc15 pm15 an15 (.ref cc15) ct15), sl15⟩)
    (d15 : PySem.W.codeIn K (.ref cc15) "is_holder" = true) (k15 : PySem.W.keepIn K (.ref f15) = true)
    (a16 : PySem.W.nsIn K mainGlobals "is_deputies" = some (some (.ref f16))) (l16 : K.lookup f16 = some ⟨oc16, od16, .func (PySem.W.fnOf "is_deputies" "is_deputies" (defArgs s_is_deputies) (defBody s_is_deputies) (defScope s_is_deputies) .none kV16 dc16 pm16 an16 (.ref cc16) ct16), sl16⟩)
    (d16 : PySem.W.codeIn K (.ref cc16) "is_deputies" = true) (k16 : PySem.W.keepIn K (.ref f16) = true)
    (q16 : K.lookup cc16 = some ⟨oq16, dq16, .fields vq16, sq16⟩) (r16 : vq16[11]? = some (.ref P16))
    (a17 : PySem.W.nsIn K mainGlobals "check_deputies" = some (some (.ref f17))) (l17 : K.lookup f17 = some ⟨oc17, od17, .func (PySem.W.fnOf "check_deputies" "check_deputies" (defArgs s_check_deputies) (defBody s_check_deputies) (defScope s_check_deputies) .none kV17 dc17 pm17 an17 (.ref cc17) ct17), sl17⟩)
    (d17 : PySem.W.codeIn K (.ref cc17) "check_deputies" = true) (k17 : PySem.W.keepIn K (.ref f17) = true)
    (a18 : PySem.W.nsIn K mainGlobals "chain_of" = some (some (.ref f18))) (l18 : K.lookup f18 = some ⟨oc18, od18, .func (PySem.W.fnOf "chain_of" "chain_of" (defArgs s_chain_of) (defBody s_chain_of) (defScope s_chain_of) .none kV18 dc18 pm18 an18 (.ref cc18) ct18), sl18⟩)
    (d18 : PySem.W.codeIn K (.ref cc18) "chain_of" = true) (k18 : PySem.W.keepIn K (.ref f18) = true)
    (a19 : PySem.W.nsIn K mainGlobals "least_chain_of" = some (some (.ref f19))) (l19 : K.lookup f19 = some ⟨oc19, od19, .func (PySem.W.fnOf "least_chain_of" "least_chain_of" (defArgs s_least_chain_of) (defBody s_least_chain_of) (defScope s_least_chain_of) .none kV19 dc19 pm19 an19 (.ref cc19) ct19), sl19⟩)
    (d19 : PySem.W.codeIn K (.ref cc19) "least_chain_of" = true) (k19 : PySem.W.keepIn K (.ref f19) = true)
    (q19 : K.lookup cc19 = some ⟨oq19, dq19, .fields vq19, sq19⟩) (r19 : vq19[11]? = some (.ref P19))
    (a20 : PySem.W.nsIn K mainGlobals "surest" = some (some (.ref f20))) (l20 : K.lookup f20 = some ⟨oc20, od20, .func (PySem.W.fnOf "surest" "surest" (defArgs s_surest) (defBody s_surest) (defScope s_surest) .none kV20 dc20 pm20 an20 (.ref cc20) ct20), sl20⟩)
    (d20 : PySem.W.codeIn K (.ref cc20) "surest" = true) (k20 : PySem.W.keepIn K (.ref f20) = true)
    (a21 : PySem.W.nsIn K mainGlobals "_law_by" = some (some (.ref f21))) (l21 : K.lookup f21 = some ⟨oc21, od21, .func (PySem.W.fnOf "_law_by" "_law_by" (defArgs s__law_by) (defBody s__law_by) (defScope s__law_by) .none kV21 dc21 pm21 an21 (.ref cc21) ct21), sl21⟩)
    (d21 : PySem.W.codeIn K (.ref cc21) "_law_by" = true) (k21 : PySem.W.keepIn K (.ref f21) = true)
    (a22 : PySem.W.nsIn K mainGlobals "naming_count" = some (some (.ref f22))) (l22 : K.lookup f22 = some ⟨oc22, od22, .func (PySem.W.fnOf "naming_count" "naming_count" (defArgs s_naming_count) (defBody s_naming_count) (defScope s_naming_count) .none kV22 dc22 pm22 an22 (.ref cc22) ct22), sl22⟩)
    (d22 : PySem.W.codeIn K (.ref cc22) "naming_count" = true) (k22 : PySem.W.keepIn K (.ref f22) = true)
    (a23 : PySem.W.nsIn K mainGlobals "all_lots" = some (some (.ref f23))) (l23 : K.lookup f23 = some ⟨oc23, od23, .func (PySem.W.fnOf "all_lots" "all_lots" (defArgs s_all_lots) (defBody s_all_lots) (defScope s_all_lots) .none kV23 dc23 pm23 an23 (.ref cc23) ct23), sl23⟩)
    (d23 : PySem.W.codeIn K (.ref cc23) "all_lots" = true) (k23 : PySem.W.keepIn K (.ref f23) = true)
    (a24 : PySem.W.nsIn K mainGlobals "holder_of" = some (some (.ref f24))) (l24 : K.lookup f24 = some ⟨oc24, od24, .func (PySem.W.fnOf "holder_of" "holder_of" (defArgs s_holder_of) (defBody s_holder_of) (defScope s_holder_of) .none kV24 dc24 pm24 an24 (.ref cc24) ct24), sl24⟩)
    (d24 : PySem.W.codeIn K (.ref cc24) "holder_of" = true) (k24 : PySem.W.keepIn K (.ref f24) = true)
    (a25 : PySem.W.nsIn K mainGlobals "holders_of" = some (some (.ref f25))) (l25 : K.lookup f25 = some ⟨oc25, od25, .func (PySem.W.fnOf "holders_of" "holders_of" (defArgs s_holders_of) (defBody s_holders_of) (defScope s_holders_of) .none kV25 dc25 pm25 an25 (.ref cc25) ct25), sl25⟩)
    (d25 : PySem.W.codeIn K (.ref cc25) "holders_of" = true) (k25 : PySem.W.keepIn K (.ref f25) = true)
    (q25 : K.lookup cc25 = some ⟨oq25, dq25, .fields vq25, sq25⟩) (r25 : vq25[11]? = some (.ref P25))
    (a26 : PySem.W.nsIn K mainGlobals "safe_count" = some (some (.ref f26))) (l26 : K.lookup f26 = some ⟨oc26, od26, .func (PySem.W.fnOf "safe_count" "safe_count" (defArgs s_safe_count) (defBody s_safe_count) (defScope s_safe_count) .none kV26 dc26 pm26 an26 (.ref cc26) ct26), sl26⟩)
    (d26 : PySem.W.codeIn K (.ref cc26) "safe_count" = true) (k26 : PySem.W.keepIn K (.ref f26) = true)
    (a27 : PySem.W.nsIn K mainGlobals "_law_less" = some (some (.ref f27))) (l27 : K.lookup f27 = some ⟨oc27, od27, .func (PySem.W.fnOf "_law_less" "_law_less" (defArgs s__law_less) (defBody s__law_less) (defScope s__law_less) .none kV27 dc27 pm27 an27 (.ref cc27) ct27), sl27⟩)
    (d27 : PySem.W.codeIn K (.ref cc27) "_law_less" = true) (k27 : PySem.W.keepIn K (.ref f27) = true)
    (a28 : PySem.W.nsIn K mainGlobals "sum_of" = some (some (.ref f28))) (l28 : K.lookup f28 = some ⟨oc28, od28, .func (PySem.W.fnOf "sum_of" "sum_of" (defArgs s_sum_of) (defBody s_sum_of) (defScope s_sum_of) .none kV28 dc28 pm28 an28 (.ref cc28) ct28), sl28⟩)
    (d28 : PySem.W.codeIn K (.ref cc28) "sum_of" = true) (k28 : PySem.W.keepIn K (.ref f28) = true)
    (a29 : PySem.W.nsIn K mainGlobals "ahead_of" = some (some (.ref f29))) (l29 : K.lookup f29 = some ⟨oc29, od29, .func (PySem.W.fnOf "ahead_of" "ahead_of" (defArgs s_ahead_of) (defBody s_ahead_of) (defScope s_ahead_of) .none kV29 dc29 pm29 an29 (.ref cc29) ct29), sl29⟩)
    (d29 : PySem.W.codeIn K (.ref cc29) "ahead_of" = true) (k29 : PySem.W.keepIn K (.ref f29) = true)
    (a30 : PySem.W.nsIn K mainGlobals "ever_chance_of" = some (some (.ref f30))) (l30 : K.lookup f30 = some ⟨oc30, od30, .func (PySem.W.fnOf "ever_chance_of" "ever_chance_of" (defArgs s_ever_chance_of) (defBody s_ever_chance_of) (defScope s_ever_chance_of) .none kV30 dc30 pm30 an30 (.ref cc30) ct30), sl30⟩)
    (d30 : PySem.W.codeIn K (.ref cc30) "ever_chance_of" = true) (k30 : PySem.W.keepIn K (.ref f30) = true)
    (a31 : PySem.W.nsIn K mainGlobals "mean_handings" = some (some (.ref f31))) (l31 : K.lookup f31 = some ⟨oc31, od31, .func (PySem.W.fnOf "mean_handings" "mean_handings" (defArgs s_mean_handings) (defBody s_mean_handings) (defScope s_mean_handings) .none kV31 dc31 pm31 an31 (.ref cc31) ct31), sl31⟩)
    (d31 : PySem.W.codeIn K (.ref cc31) "mean_handings" = true) (k31 : PySem.W.keepIn K (.ref f31) = true)
    (a32 : PySem.W.nsIn K mainGlobals "random_loads" = some (some (.ref f32))) (l32 : K.lookup f32 = some ⟨oc32, od32, .func (PySem.W.fnOf "random_loads" "random_loads" (defArgs s_random_loads) (defBody s_random_loads) (defScope s_random_loads) .none kV32 dc32 pm32 an32 (.ref cc32) ct32), sl32⟩)
    (d32 : PySem.W.codeIn K (.ref cc32) "random_loads" = true) (k32 : PySem.W.keepIn K (.ref f32) = true)
    (a33 : PySem.W.nsIn K mainGlobals "mean_chain" = some (some (.ref f33))) (l33 : K.lookup f33 = some ⟨oc33, od33, .func (PySem.W.fnOf "mean_chain" "mean_chain" (defArgs s_mean_chain) (defBody s_mean_chain) (defScope s_mean_chain) .none kV33 dc33 pm33 an33 (.ref cc33) ct33), sl33⟩)
    (d33 : PySem.W.codeIn K (.ref cc33) "mean_chain" = true) (k33 : PySem.W.keepIn K (.ref f33) = true)
    (a34 : PySem.W.nsIn K mainGlobals "loads_of" = some (some (.ref f34))) (l34 : K.lookup f34 = some ⟨oc34, od34, .func (PySem.W.fnOf "loads_of" "loads_of" (defArgs s_loads_of) (defBody s_loads_of) (defScope s_loads_of) .none kV34 dc34 pm34 an34 (.ref cc34) ct34), sl34⟩)
    (d34 : PySem.W.codeIn K (.ref cc34) "loads_of" = true) (k34 : PySem.W.keepIn K (.ref f34) = true)
    (q34 : K.lookup cc34 = some ⟨oq34, dq34, .fields vq34, sq34⟩) (r34 : vq34[11]? = some (.ref P34))
    (a35 : PySem.W.nsIn K mainGlobals "lots_of" = some (some (.ref f35))) (l35 : K.lookup f35 = some ⟨oc35, od35, .func (PySem.W.fnOf "lots_of" "lots_of" (defArgs s_lots_of) (defBody s_lots_of) (defScope s_lots_of) .none kV35 dc35 pm35 an35 (.ref cc35) ct35), sl35⟩)
    (d35 : PySem.W.codeIn K (.ref cc35) "lots_of" = true) (k35 : PySem.W.keepIn K (.ref f35) = true)
    (a36 : PySem.W.nsIn K mainGlobals "mean_loads" = some (some (.ref f36))) (l36 : K.lookup f36 = some ⟨oc36, od36, .func (PySem.W.fnOf "mean_loads" "mean_loads" (defArgs s_mean_loads) (defBody s_mean_loads) (defScope s_mean_loads) .none kV36 dc36 pm36 an36 (.ref cc36) ct36), sl36⟩)
    (d36 : PySem.W.codeIn K (.ref cc36) "mean_loads" = true) (k36 : PySem.W.keepIn K (.ref f36) = true)
    (q36 : K.lookup cc36 = some ⟨oq36, dq36, .fields vq36, sq36⟩) (r36 : vq36[11]? = some (.ref P36))
    (a37 : PySem.W.nsIn K mainGlobals "long_rings_of" = some (some (.ref f37))) (l37 : K.lookup f37 = some ⟨oc37, od37, .func (PySem.W.fnOf "long_rings_of" "long_rings_of" (defArgs s_long_rings_of) (defBody s_long_rings_of) (defScope s_long_rings_of) .none kV37 dc37 pm37 an37 (.ref cc37) ct37), sl37⟩)
    (d37 : PySem.W.codeIn K (.ref cc37) "long_rings_of" = true) (k37 : PySem.W.keepIn K (.ref f37) = true)
    (a38 : PySem.W.nsIn K mainGlobals "ways_to_rings_of" = some (some (.ref f38))) (l38 : K.lookup f38 = some ⟨oc38, od38, .func (PySem.W.fnOf "ways_to_rings_of" "ways_to_rings_of" (defArgs s_ways_to_rings_of) (defBody s_ways_to_rings_of) (defScope s_ways_to_rings_of) .none kV38 dc38 pm38 an38 (.ref cc38) ct38), sl38⟩)
    (d38 : PySem.W.codeIn K (.ref cc38) "ways_to_rings_of" = true) (k38 : PySem.W.keepIn K (.ref f38) = true)
    (a39 : PySem.W.nsIn K mainGlobals "sure_count_of" = some (some (.ref f39))) (l39 : K.lookup f39 = some ⟨oc39, od39, .func (PySem.W.fnOf "sure_count_of" "sure_count_of" (defArgs s_sure_count_of) (defBody s_sure_count_of) (defScope s_sure_count_of) .none kV39 dc39 pm39 an39 (.ref cc39) ct39), sl39⟩)
    (d39 : PySem.W.codeIn K (.ref cc39) "sure_count_of" = true) (k39 : PySem.W.keepIn K (.ref f39) = true)
    (a40 : PySem.W.nsIn K mainGlobals "sure_count" = some (some (.ref f40))) (l40 : K.lookup f40 = some ⟨oc40, od40, .func (PySem.W.fnOf "sure_count" "sure_count" (defArgs s_sure_count) (defBody s_sure_count) (defScope s_sure_count) .none kV40 dc40 pm40 an40 (.ref cc40) ct40), sl40⟩)
    (d40 : PySem.W.codeIn K (.ref cc40) "sure_count" = true) (k40 : PySem.W.keepIn K (.ref f40) = true)
    (a41 : PySem.W.nsIn K mainGlobals "are_unlike_holders" = some (some (.ref f41))) (l41 : K.lookup f41 = some ⟨oc41, od41, .func (PySem.W.fnOf "are_unlike_holders" "are_unlike_holders" (defArgs s_are_unlike_holders) (defBody s_are_unlike_holders) (defScope s_are_unlike_holders) .none kV41 dc41 pm41 an41 (.ref cc41) ct41), sl41⟩)
    (d41 : PySem.W.codeIn K (.ref cc41) "are_unlike_holders" = true) (k41 : PySem.W.keepIn K (.ref f41) = true)
    (q41 : K.lookup cc41 = some ⟨oq41, dq41, .fields vq41, sq41⟩) (r41 : vq41[11]? = some (.ref P41))
    (a42 : PySem.W.nsIn K mainGlobals "is_order" = some (some (.ref f42))) (l42 : K.lookup f42 = some ⟨oc42, od42, .func (PySem.W.fnOf "is_order" "is_order" (defArgs s_is_order) (defBody s_is_order) (defScope s_is_order) .none kV42 dc42 pm42 an42 (.ref cc42) ct42), sl42⟩)
    (d42 : PySem.W.codeIn K (.ref cc42) "is_order" = true) (k42 : PySem.W.keepIn K (.ref f42) = true)
    (a43 : PySem.W.nsIn K mainGlobals "is_lot" = some (some (.ref f43))) (l43 : K.lookup f43 = some ⟨oc43, od43, .func (PySem.W.fnOf "is_lot" "is_lot" (defArgs s_is_lot) (defBody s_is_lot) (defScope s_is_lot) .none kV43 dc43 pm43 an43 (.ref cc43) ct43), sl43⟩)
    (d43 : PySem.W.codeIn K (.ref cc43) "is_lot" = true) (k43 : PySem.W.keepIn K (.ref f43) = true)
    (a44 : PySem.W.nsIn K mainGlobals "check_lot" = some (some (.ref f44))) (l44 : K.lookup f44 = some ⟨oc44, od44, .func (PySem.W.fnOf "check_lot" "check_lot" (defArgs s_check_lot) (defBody s_check_lot) (defScope s_check_lot) .none kV44 dc44 pm44 an44 (.ref cc44) ct44), sl44⟩)
    (d44 : PySem.W.codeIn K (.ref cc44) "check_lot" = true) (k44 : PySem.W.keepIn K (.ref f44) = true)
    (a45 : PySem.W.nsIn K mainGlobals "holders" = some (some (.ref f45))) (l45 : K.lookup f45 = some ⟨oc45, od45, .func (PySem.W.fnOf "holders" "holders" (defArgs s_holders) (defBody s_holders) (defScope s_holders) .none kV45 dc45 pm45 an45 (.ref cc45) ct45), sl45⟩)
    (d45 : PySem.W.codeIn K (.ref cc45) "holders" = true) (k45 : PySem.W.keepIn K (.ref f45) = true)
    (a46 : PySem.W.nsIn K mainGlobals "law" = some (some (.ref f46))) (l46 : K.lookup f46 = some ⟨oc46, od46, .func (PySem.W.fnOf "law" "law" (defArgs s_law) (defBody s_law) (defScope s_law) .none kV46 dc46 pm46 an46 (.ref cc46) ct46), sl46⟩)
    (d46 : PySem.W.codeIn K (.ref cc46) "law" = true) (k46 : PySem.W.keepIn K (.ref f46) = true)
    (e_NONE_AT_ALL : PySem.W.nsIn K mainGlobals "NONE_AT_ALL" = some (some (.ref h_NONE_AT_ALL))) (f_NONE_AT_ALL : K.lookup h_NONE_AT_ALL = some ⟨.type "tuple", none, .seq #[.int (0) t0_NONE_AT_ALL, .int (1) t1_NONE_AT_ALL] n_NONE_AT_ALL, j_NONE_AT_ALL⟩)
    (e_SURE : PySem.W.nsIn K mainGlobals "SURE" = some (some (.ref h_SURE))) (f_SURE : K.lookup h_SURE = some ⟨.type "tuple", none, .seq #[.int (1) t0_SURE, .int (1) t1_SURE] n_SURE, j_SURE⟩)
    (e_MOST_COUNTED : PySem.W.nsIn K mainGlobals "MOST_COUNTED" = some (some (.int (60) tk_MOST_COUNTED)))
    (e_MOST_PEOPLE : PySem.W.nsIn K mainGlobals "MOST_PEOPLE" = some (some (.int (6) tk_MOST_PEOPLE)))
    (e_OFFICE : PySem.W.nsIn K mainGlobals "OFFICE" = some (some (.int (-1) tk_OFFICE)))
    (e_comb : PySem.W.nsIn K mainGlobals "comb" = some (some (.builtin "math.comb")))
    (e_combinations : PySem.W.nsIn K mainGlobals "combinations" = some (some (.type "itertools.combinations")))
    (e_gcd : PySem.W.nsIn K mainGlobals "gcd" = some (some (.builtin "math.gcd")))
    (e_perm : PySem.W.nsIn K mainGlobals "perm" = some (some (.builtin "math.perm")))
    (e_abs : PySem.W.nsIn K mainGlobals "abs" = some none)
    (e_all : PySem.W.nsIn K mainGlobals "all" = some none)
    (e_bool : PySem.W.nsIn K mainGlobals "bool" = some none)
    (e_int : PySem.W.nsIn K mainGlobals "int" = some none)
    (e_isinstance : PySem.W.nsIn K mainGlobals "isinstance" = some none)
    (e_len : PySem.W.nsIn K mainGlobals "len" = some none)
    (e_list : PySem.W.nsIn K mainGlobals "list" = some none)
    (e_min : PySem.W.nsIn K mainGlobals "min" = some none)
    (e_range : PySem.W.nsIn K mainGlobals "range" = some none)
    (e_set : PySem.W.nsIn K mainGlobals "set" = some none)
    (e_sorted : PySem.W.nsIn K mainGlobals "sorted" = some none)
    (e_sum : PySem.W.nsIn K mainGlobals "sum" = some none)
    (e_tuple : PySem.W.nsIn K mainGlobals "tuple" = some none)
    (M : ∀ ns : List Int, ns.length ≤ 63 → (∀ z ∈ ns, Builtin.Int.intBits z ≤ 1048576) → ∀ own, ∃ ρ', c_law (st0 own ns :: noS 15) = some (.rt (.bool true) ρ')) :
    LamX.LawAtS l w K CX0 10 63 "script" mg fa h := by
  have e := hfa.symm.trans (PySem.W.mg_of X Gn a46)
  cases e
  have G : Txt K mg := ⟨⟨_, PySem.W.mg_of X Gn e_MOST_COUNTED⟩, ⟨_, PySem.W.mg_of X Gn e_MOST_PEOPLE⟩, ⟨_, PySem.W.mg_of X Gn e_NONE_AT_ALL, ktup2 f_NONE_AT_ALL⟩, ⟨_, PySem.W.mg_of X Gn e_OFFICE⟩, ⟨_, PySem.W.mg_of X Gn e_SURE, ktup2 f_SURE⟩, PySem.W.mg_none_of X Gn e_abs, PySem.W.mg_none_of X Gn e_all, PySem.W.mg_none_of X Gn e_bool, PySem.W.mg_of X Gn e_comb, PySem.W.mg_of X Gn e_combinations, PySem.W.mg_of X Gn e_gcd, PySem.W.mg_none_of X Gn e_int, PySem.W.mg_none_of X Gn e_isinstance, PySem.W.mg_none_of X Gn e_len, PySem.W.mg_none_of X Gn e_list, PySem.W.mg_none_of X Gn e_min, PySem.W.mg_of X Gn e_perm, PySem.W.mg_none_of X Gn e_range, PySem.W.mg_none_of X Gn e_set, PySem.W.mg_none_of X Gn e_sorted, PySem.W.mg_none_of X Gn e_sum, PySem.W.mg_none_of X Gn e_tuple⟩
  obtain ⟨y12, z12, w12⟩ := TB "length_chances" cc12 P12 (by decide) (tabIn_mk a12 l12 rfl q12 r12)
  obtain ⟨y16, z16, w16⟩ := TB "is_deputies" cc16 P16 (by decide) (tabIn_mk a16 l16 rfl q16 r16)
  obtain ⟨y19, z19, w19⟩ := TB "least_chain_of" cc19 P19 (by decide) (tabIn_mk a19 l19 rfl q19 r19)
  obtain ⟨y25, z25, w25⟩ := TB "holders_of" cc25 P25 (by decide) (tabIn_mk a25 l25 rfl q25 r25)
  obtain ⟨y34, z34, w34⟩ := TB "loads_of" cc34 P34 (by decide) (tabIn_mk a34 l34 rfl q34 r34)
  obtain ⟨y36, z36, w36⟩ := TB "mean_loads" cc36 P36 (by decide) (tabIn_mk a36 l36 rfl q36 r36)
  obtain ⟨y41, z41, w41⟩ := TB "are_unlike_holders" cc41 P41 (by decide) (tabIn_mk a41 l41 rfl q41 r41)
  refine ⟨PySem.W.fnOf "law" "law" (defArgs s_law) (defBody s_law) (defScope s_law) .none kV46 dc46 pm46 an46 (.ref cc46) ct46, [(cc12, P12), (cc16, P16), (cc19, P19), (cc25, P25), (cc34, P34), (cc36, P36), (cc41, P41)], spL K [P12, P16, P19, P25, P34, P36, P41] 15 c_law, ?_, ?_, ?_, fun s v => .of_eq rfl, fun H a ns hl hb hH hS => ⟨a, ns, rfl, ?_, hS, M ns hl hb, fun _ => rfl⟩, fun base _ _ TBs => ?_⟩
  · intro p hp
    simp only [List.mem_cons, List.not_mem_nil, or_false] at hp
    rcases hp with rfl | rfl | rfl | rfl | rfl | rfl | rfl
    · exact z12
    · exact z16
    · exact z19
    · exact z25
    · exact z34
    · exact z36
    · exact z41
  · intro p hp
    simp only [List.mem_cons, List.not_mem_nil, or_false] at hp
    rcases hp with rfl | rfl | rfl | rfl | rfl | rfl | rfl
    · exact w12
    · exact w16
    · exact w19
    · exact w25
    · exact w34
    · exact w36
    · exact w41
  · intro p hp
    simp only [List.mem_cons, List.not_mem_nil, or_false] at hp
    rcases hp with rfl | rfl | rfl | rfl | rfl | rfl | rfl
    · exact y12
    · exact y16
    · exact y19
    · exact y25
    · exact y34
    · exact y36
    · exact y41
  · intro p hp
    simp only [List.mem_cons, List.not_mem_nil, or_false] at hp
    rcases hp with e | e | e | e | e | e | e
    · rw [e]; exact tabG_nil (hH (cc12, P12) (by simp))
    · rw [e]; exact tabG_nil (hH (cc16, P16) (by simp))
    · rw [e]; exact tabG_nil (hH (cc19, P19) (by simp))
    · rw [e]; exact tabG_nil (hH (cc25, P25) (by simp))
    · rw [e]; exact tabG_nil (hH (cc34, P34) (by simp))
    · rw [e]; exact tabG_nil (hH (cc36, P36) (by simp))
    · rw [e]; exact tabG_nil (hH (cc41, P41) (by simp))
  · have _ := TBs
    have D0 := funC_mk (st := s__law_taken) l0 d0 k0
    have m0 := PySem.W.mg_of X Gn a0
    have B0 := D0.binds (ps := ["row", "many"]) fun _ _ _ _ _ us hl => match us, hl with | [_, _], _ => rfl
    have C0 : Cal l.prog w K mg base 1 "_law_taken" ["row", "many"] (sp1 K [P12, P16, P19, P25, P34, P36, P41] F__law_taken) := cal1 D0 m0 sc__law_taken (by decide) B0 (b__law_taken G )
    have D1 := funC_mk (st := s__law_pick) l1 d1 k1
    have m1 := PySem.W.mg_of X Gn a1
    have B1 := D1.binds (ps := ["row", "things"]) fun _ _ _ _ _ us hl => match us, hl with | [_, _], _ => rfl
    have C1 : Cal l.prog w K mg base 2 "_law_pick" ["row", "things"] (sp1 K [P12, P16, P19, P25, P34, P36, P41] F__law_pick) := cal1 D1 m1 sc__law_pick (by decide) B1 (b__law_pick G C0)
    have D2 := funC_mk (st := s__law_every) l2 d2 k2
    have m2 := PySem.W.mg_of X Gn a2
    have B2 := D2.binds (ps := ["size"]) fun _ _ _ _ _ us hl => match us, hl with | [_], _ => rfl
    have C2 : Cal l.prog w K mg base 1 "_law_every" ["size"] (sp0 K [P12, P16, P19, P25, P34, P36, P41] F__law_every) := cal0 D2 m2 sc__law_every B2 (b__law_every G )
    have D3 := funC_mk (st := s__law_ratio) l3 d3 k3
    have m3 := PySem.W.mg_of X Gn a3
    have B3 := D3.binds (ps := ["top", "bottom"]) fun _ _ _ _ _ us hl => match us, hl with | [_, _], _ => rfl
    have C3 : Cal l.prog w K mg base 1 "_law_ratio" ["top", "bottom"] (sp0 K [P12, P16, P19, P25, P34, P36, P41] F__law_ratio) := cal0 D3 m3 sc__law_ratio B3 (b__law_ratio G )
    have D4 := funC_mk (st := s__law_plus) l4 d4 k4
    have m4 := PySem.W.mg_of X Gn a4
    have B4 := D4.binds (ps := ["one", "other"]) fun _ _ _ _ _ us hl => match us, hl with | [_, _], _ => rfl
    have C4 : Cal l.prog w K mg base 2 "_law_plus" ["one", "other"] (sp0 K [P12, P16, P19, P25, P34, P36, P41] F__law_plus) := cal0 D4 m4 sc__law_plus B4 (b__law_plus G C3)
    have D5 := funC_mk (st := s_is_plain_integer) l5 d5 k5
    have m5 := PySem.W.mg_of X Gn a5
    have B5 := D5.binds (ps := ["value"]) fun _ _ _ _ _ us hl => match us, hl with | [_], _ => rfl
    have C5 : Cal l.prog w K mg base 1 "is_plain_integer" ["value"] (sp0 K [P12, P16, P19, P25, P34, P36, P41] F_is_plain_integer) := cal0 D5 m5 sc_is_plain_integer B5 (b_is_plain_integer G )
    have D6 := funC_mk (st := s_is_integer_from) l6 d6 k6
    have m6 := PySem.W.mg_of X Gn a6
    have B6 := D6.binds (ps := ["value", "least", "most"]) fun _ _ _ _ _ us hl => match us, hl with | [_, _, _], _ => rfl
    have C6 : Cal l.prog w K mg base 2 "is_integer_from" ["value", "least", "most"] (sp0 K [P12, P16, P19, P25, P34, P36, P41] F_is_integer_from) := cal0 D6 m6 sc_is_integer_from B6 (b_is_integer_from G C5)
    have D7 := funC_mk (st := s_check_count) l7 d7 k7
    have m7 := PySem.W.mg_of X Gn a7
    have B7 := D7.binds (ps := ["value", "least", "most"]) fun _ _ _ _ _ us hl => match us, hl with | [_, _, _], _ => rfl
    have C7 : Cal l.prog w K mg base 3 "check_count" ["value", "least", "most"] (sp0 K [P12, P16, P19, P25, P34, P36, P41] F_check_count) := cal0 D7 m7 sc_check_count B7 (b_check_count G C6)
    have D8 := funC_mk (st := s_power_of) l8 d8 k8
    have m8 := PySem.W.mg_of X Gn a8
    have B8 := D8.binds (ps := ["base", "times"]) fun _ _ _ _ _ us hl => match us, hl with | [_, _], _ => rfl
    have C8 : Cal l.prog w K mg base 1 "power_of" ["base", "times"] (sp0 K [P12, P16, P19, P25, P34, P36, P41] F_power_of) := cal0 D8 m8 sc_power_of B8 (b_power_of G )
    have D9 := funC_mk (st := s_naming_count_of) l9 d9 k9
    have m9 := PySem.W.mg_of X Gn a9
    have B9 := D9.binds (ps := ["size"]) fun _ _ _ _ _ us hl => match us, hl with | [_], _ => rfl
    have C9 : Cal l.prog w K mg base 2 "naming_count_of" ["size"] (sp0 K [P12, P16, P19, P25, P34, P36, P41] F_naming_count_of) := cal0 D9 m9 sc_naming_count_of B9 (b_naming_count_of G C8)
    have D10 := funC_mk (st := s_ratio) l10 d10 k10
    have m10 := PySem.W.mg_of X Gn a10
    have B10 := D10.binds (ps := ["top", "bottom"]) fun _ _ _ _ _ us hl => match us, hl with | [_, _], _ => rfl
    have C10 : Cal l.prog w K mg base 1 "ratio" ["top", "bottom"] (sp0 K [P12, P16, P19, P25, P34, P36, P41] F_ratio) := cal0 D10 m10 sc_ratio B10 (b_ratio G )
    have D11 := funC_mk (st := s_chain_total_of) l11 d11 k11
    have m11 := PySem.W.mg_of X Gn a11
    have B11 := D11.binds (ps := ["size", "length"]) fun _ _ _ _ _ us hl => match us, hl with | [_, _], _ => rfl
    have C11 : Cal l.prog w K mg base 2 "chain_total_of" ["size", "length"] (sp0 K [P12, P16, P19, P25, P34, P36, P41] F_chain_total_of) := cal0 D11 m11 sc_chain_total_of B11 (b_chain_total_of G C8)
    have D12 := funC_mk (st := s_length_chances) l12 d12 k12
    have m12 := PySem.W.mg_of X Gn a12
    have B12 := D12.binds (ps := ["size"]) fun _ _ _ _ _ us hl => match us, hl with | [_], _ => rfl
    have C12 : Cal l.prog w K mg base 4 "length_chances" ["size"] (sp0 K [P12, P16, P19, P25, P34, P36, P41] F_length_chances) := cal0 D12 m12 sc_length_chances B12 (b_length_chances G C7 C9 C10 C11 (TBs (cc12, P12) (by simp)) (by simp))
    have D13 := funC_mk (st := s_chance_of_out) l13 d13 k13
    have m13 := PySem.W.mg_of X Gn a13
    have B13 := D13.binds (ps := ["size", "many"]) fun _ _ _ _ _ us hl => match us, hl with | [_, _], _ => rfl
    have C13 : Cal l.prog w K mg base 1 "chance_of_out" ["size", "many"] (sp0 K [P12, P16, P19, P25, P34, P36, P41] F_chance_of_out) := cal0 D13 m13 sc_chance_of_out B13 (b_chance_of_out G )
    have D14 := funC_mk (st := s_random_out) l14 d14 k14
    have m14 := PySem.W.mg_of X Gn a14
    have B14 := D14.binds (ps := ["size", "many"]) fun _ _ _ _ _ us hl => match us, hl with | [_, _], _ => rfl
    have C14 : Cal l.prog w K mg base 4 "random_out" ["size", "many"] (sp0 K [P12, P16, P19, P25, P34, P36, P41] F_random_out) := cal0 D14 m14 sc_random_out B14 (b_random_out G C7 C13 C10)
    have D15 := funC_mk (st := s_is_holder) l15 d15 k15
    have m15 := PySem.W.mg_of X Gn a15
    have B15 := D15.binds (ps := ["value", "size"]) fun _ _ _ _ _ us hl => match us, hl with | [_, _], _ => rfl
    have C15 : Cal l.prog w K mg base 3 "is_holder" ["value", "size"] (sp0 K [P12, P16, P19, P25, P34, P36, P41] F_is_holder) := cal0 D15 m15 sc_is_holder B15 (b_is_holder G C6)
    have D16 := funC_mk (st := s_is_deputies) l16 d16 k16
    have m16 := PySem.W.mg_of X Gn a16
    have B16 := D16.binds (ps := ["value"]) fun _ _ _ _ _ us hl => match us, hl with | [_], _ => rfl
    have C16 : Cal l.prog w K mg base 5 "is_deputies" ["value"] (sp0 K [P12, P16, P19, P25, P34, P36, P41] F_is_deputies) := cal0 D16 m16 sc_is_deputies B16 (b_is_deputies G C15 (TBs (cc16, P16) (by simp)) (by simp))
    have D17 := funC_mk (st := s_check_deputies) l17 d17 k17
    have m17 := PySem.W.mg_of X Gn a17
    have B17 := D17.binds (ps := ["value"]) fun _ _ _ _ _ us hl => match us, hl with | [_], _ => rfl
    have C17 : Cal l.prog w K mg base 6 "check_deputies" ["value"] (sp0 K [P12, P16, P19, P25, P34, P36, P41] F_check_deputies) := cal0 D17 m17 sc_check_deputies B17 (b_check_deputies G C16)
    have D18 := funC_mk (st := s_chain_of) l18 d18 k18
    have m18 := PySem.W.mg_of X Gn a18
    have B18 := D18.binds (ps := ["deputies", "person"]) fun _ _ _ _ _ us hl => match us, hl with | [_, _], _ => rfl
    have C18 : Cal l.prog w K mg base 1 "chain_of" ["deputies", "person"] (sp0 K [P12, P16, P19, P25, P34, P36, P41] F_chain_of) := cal0 D18 m18 sc_chain_of B18 (b_chain_of G )
    have D19 := funC_mk (st := s_least_chain_of) l19 d19 k19
    have m19 := PySem.W.mg_of X Gn a19
    have B19 := D19.binds (ps := ["deputies"]) fun _ _ _ _ _ us hl => match us, hl with | [_], _ => rfl
    have C19 : Cal l.prog w K mg base 3 "least_chain_of" ["deputies"] (sp0 K [P12, P16, P19, P25, P34, P36, P41] F_least_chain_of) := cal0 D19 m19 sc_least_chain_of B19 (b_least_chain_of G C18 (TBs (cc19, P19) (by simp)) (by simp))
    have D20 := funC_mk (st := s_surest) l20 d20 k20
    have m20 := PySem.W.mg_of X Gn a20
    have B20 := D20.binds (ps := ["deputies"]) fun _ _ _ _ _ us hl => match us, hl with | [_], _ => rfl
    have C20 : Cal l.prog w K mg base 7 "surest" ["deputies"] (sp0 K [P12, P16, P19, P25, P34, P36, P41] F_surest) := cal0 D20 m20 sc_surest B20 (b_surest G C17 C19)
    have D21 := funC_mk (st := s__law_by) l21 d21 k21
    have m21 := PySem.W.mg_of X Gn a21
    have B21 := D21.binds (ps := ["one", "other"]) fun _ _ _ _ _ us hl => match us, hl with | [_, _], _ => rfl
    have C21 : Cal l.prog w K mg base 2 "_law_by" ["one", "other"] (sp0 K [P12, P16, P19, P25, P34, P36, P41] F__law_by) := cal0 D21 m21 sc__law_by B21 (b__law_by G C3)
    have D22 := funC_mk (st := s_naming_count) l22 d22 k22
    have m22 := PySem.W.mg_of X Gn a22
    have B22 := D22.binds (ps := ["size"]) fun _ _ _ _ _ us hl => match us, hl with | [_], _ => rfl
    have C22 : Cal l.prog w K mg base 4 "naming_count" ["size"] (sp0 K [P12, P16, P19, P25, P34, P36, P41] F_naming_count) := cal0 D22 m22 sc_naming_count B22 (b_naming_count G C7 C9)
    have D23 := funC_mk (st := s_all_lots) l23 d23 k23
    have m23 := PySem.W.mg_of X Gn a23
    have B23 := D23.binds (ps := ["size"]) fun _ _ _ _ _ us hl => match us, hl with | [_], _ => rfl
    have C23 : Cal l.prog w K mg base 1 "all_lots" ["size"] (sp0 K [P12, P16, P19, P25, P34, P36, P41] F_all_lots) := cal0 D23 m23 sc_all_lots B23 (b_all_lots G )
    have D24 := funC_mk (st := s_holder_of) l24 d24 k24
    have m24 := PySem.W.mg_of X Gn a24
    have B24 := D24.binds (ps := ["deputies", "gone", "person"]) fun _ _ _ _ _ us hl => match us, hl with | [_, _, _], _ => rfl
    have C24 : Cal l.prog w K mg base 2 "holder_of" ["deputies", "gone", "person"] (sp0 K [P12, P16, P19, P25, P34, P36, P41] F_holder_of) := cal0 D24 m24 sc_holder_of B24 (b_holder_of G C18)
    have D25 := funC_mk (st := s_holders_of) l25 d25 k25
    have m25 := PySem.W.mg_of X Gn a25
    have B25 := D25.binds (ps := ["deputies", "gone"]) fun _ _ _ _ _ us hl => match us, hl with | [_, _], _ => rfl
    have C25 : Cal l.prog w K mg base 4 "holders_of" ["deputies", "gone"] (sp0 K [P12, P16, P19, P25, P34, P36, P41] F_holders_of) := cal0 D25 m25 sc_holders_of B25 (b_holders_of G C24 (TBs (cc25, P25) (by simp)) (by simp))
    have D26 := funC_mk (st := s_safe_count) l26 d26 k26
    have m26 := PySem.W.mg_of X Gn a26
    have B26 := D26.binds (ps := ["deputies"]) fun _ _ _ _ _ us hl => match us, hl with | [_], _ => rfl
    have C26 : Cal l.prog w K mg base 7 "safe_count" ["deputies"] (sp0 K [P12, P16, P19, P25, P34, P36, P41] F_safe_count) := cal0 D26 m26 sc_safe_count B26 (b_safe_count G C17 C23 C25)
    have D27 := funC_mk (st := s__law_less) l27 d27 k27
    have m27 := PySem.W.mg_of X Gn a27
    have B27 := D27.binds (ps := ["one", "other"]) fun _ _ _ _ _ us hl => match us, hl with | [_, _], _ => rfl
    have C27 : Cal l.prog w K mg base 1 "_law_less" ["one", "other"] (sp0 K [P12, P16, P19, P25, P34, P36, P41] F__law_less) := cal0 D27 m27 sc__law_less B27 (b__law_less G )
    have D28 := funC_mk (st := s_sum_of) l28 d28 k28
    have m28 := PySem.W.mg_of X Gn a28
    have B28 := D28.binds (ps := ["ratios"]) fun _ _ _ _ _ us hl => match us, hl with | [_], _ => rfl
    have C28 : Cal l.prog w K mg base 2 "sum_of" ["ratios"] (sp0 K [P12, P16, P19, P25, P34, P36, P41] F_sum_of) := cal0 D28 m28 sc_sum_of B28 (b_sum_of G C10)
    have D29 := funC_mk (st := s_ahead_of) l29 d29 k29
    have m29 := PySem.W.mg_of X Gn a29
    have B29 := D29.binds (ps := ["deputies", "person", "other"]) fun _ _ _ _ _ us hl => match us, hl with | [_, _, _], _ => rfl
    have C29 : Cal l.prog w K mg base 2 "ahead_of" ["deputies", "person", "other"] (sp0 K [P12, P16, P19, P25, P34, P36, P41] F_ahead_of) := cal0 D29 m29 sc_ahead_of B29 (b_ahead_of G C18)
    have D30 := funC_mk (st := s_ever_chance_of) l30 d30 k30
    have m30 := PySem.W.mg_of X Gn a30
    have B30 := D30.binds (ps := ["deputies", "person", "other"]) fun _ _ _ _ _ us hl => match us, hl with | [_, _, _], _ => rfl
    have C30 : Cal l.prog w K mg base 3 "ever_chance_of" ["deputies", "person", "other"] (sp0 K [P12, P16, P19, P25, P34, P36, P41] F_ever_chance_of) := cal0 D30 m30 sc_ever_chance_of B30 (b_ever_chance_of G C29)
    have D31 := funC_mk (st := s_mean_handings) l31 d31 k31
    have m31 := PySem.W.mg_of X Gn a31
    have B31 := D31.binds (ps := ["deputies"]) fun _ _ _ _ _ us hl => match us, hl with | [_], _ => rfl
    have C31 : Cal l.prog w K mg base 7 "mean_handings" ["deputies"] (sp0 K [P12, P16, P19, P25, P34, P36, P41] F_mean_handings) := cal0 D31 m31 sc_mean_handings B31 (b_mean_handings G C17 C28 C30)
    have D32 := funC_mk (st := s_random_loads) l32 d32 k32
    have m32 := PySem.W.mg_of X Gn a32
    have B32 := D32.binds (ps := ["size", "many"]) fun _ _ _ _ _ us hl => match us, hl with | [_, _], _ => rfl
    have C32 : Cal l.prog w K mg base 4 "random_loads" ["size", "many"] (sp0 K [P12, P16, P19, P25, P34, P36, P41] F_random_loads) := cal0 D32 m32 sc_random_loads B32 (b_random_loads G C7 C13 C10)
    have D33 := funC_mk (st := s_mean_chain) l33 d33 k33
    have m33 := PySem.W.mg_of X Gn a33
    have B33 := D33.binds (ps := ["size"]) fun _ _ _ _ _ us hl => match us, hl with | [_], _ => rfl
    have C33 : Cal l.prog w K mg base 4 "mean_chain" ["size"] (sp0 K [P12, P16, P19, P25, P34, P36, P41] F_mean_chain) := cal0 D33 m33 sc_mean_chain B33 (b_mean_chain G C7 C10 C9 C11)
    have D34 := funC_mk (st := s_loads_of) l34 d34 k34
    have m34 := PySem.W.mg_of X Gn a34
    have B34 := D34.binds (ps := ["deputies", "gone"]) fun _ _ _ _ _ us hl => match us, hl with | [_, _], _ => rfl
    have C34 : Cal l.prog w K mg base 5 "loads_of" ["deputies", "gone"] (sp0 K [P12, P16, P19, P25, P34, P36, P41] F_loads_of) := cal0 D34 m34 sc_loads_of B34 (b_loads_of G C25 (TBs (cc34, P34) (by simp)) (by simp))
    have D35 := funC_mk (st := s_lots_of) l35 d35 k35
    have m35 := PySem.W.mg_of X Gn a35
    have B35 := D35.binds (ps := ["size", "many"]) fun _ _ _ _ _ us hl => match us, hl with | [_, _], _ => rfl
    have C35 : Cal l.prog w K mg base 1 "lots_of" ["size", "many"] (sp0 K [P12, P16, P19, P25, P34, P36, P41] F_lots_of) := cal0 D35 m35 sc_lots_of B35 (b_lots_of G )
    have D36 := funC_mk (st := s_mean_loads) l36 d36 k36
    have m36 := PySem.W.mg_of X Gn a36
    have B36 := D36.binds (ps := ["deputies", "many"]) fun _ _ _ _ _ us hl => match us, hl with | [_, _], _ => rfl
    have C36 : Cal l.prog w K mg base 7 "mean_loads" ["deputies", "many"] (sp0 K [P12, P16, P19, P25, P34, P36, P41] F_mean_loads) := cal0 D36 m36 sc_mean_loads B36 (b_mean_loads G C17 C7 C34 C35 C10 (TBs (cc36, P36) (by simp)) (by simp))
    have D37 := funC_mk (st := s_long_rings_of) l37 d37 k37
    have m37 := PySem.W.mg_of X Gn a37
    have B37 := D37.binds (ps := ["many", "least"]) fun _ _ _ _ _ us hl => match us, hl with | [_, _], _ => rfl
    have C37 : Cal l.prog w K mg base 1 "long_rings_of" ["many", "least"] (sp0 K [P12, P16, P19, P25, P34, P36, P41] F_long_rings_of) := cal0 D37 m37 sc_long_rings_of B37 (b_long_rings_of G )
    have D38 := funC_mk (st := s_ways_to_rings_of) l38 d38 k38
    have m38 := PySem.W.mg_of X Gn a38
    have B38 := D38.binds (ps := ["size", "many"]) fun _ _ _ _ _ us hl => match us, hl with | [_, _], _ => rfl
    have C38 : Cal l.prog w K mg base 2 "ways_to_rings_of" ["size", "many"] (sp0 K [P12, P16, P19, P25, P34, P36, P41] F_ways_to_rings_of) := cal0 D38 m38 sc_ways_to_rings_of B38 (b_ways_to_rings_of G C8)
    have D39 := funC_mk (st := s_sure_count_of) l39 d39 k39
    have m39 := PySem.W.mg_of X Gn a39
    have B39 := D39.binds (ps := ["size", "many"]) fun _ _ _ _ _ us hl => match us, hl with | [_, _], _ => rfl
    have C39 : Cal l.prog w K mg base 3 "sure_count_of" ["size", "many"] (sp0 K [P12, P16, P19, P25, P34, P36, P41] F_sure_count_of) := cal0 D39 m39 sc_sure_count_of B39 (b_sure_count_of G C37 C38)
    have D40 := funC_mk (st := s_sure_count) l40 d40 k40
    have m40 := PySem.W.mg_of X Gn a40
    have B40 := D40.binds (ps := ["size", "many"]) fun _ _ _ _ _ us hl => match us, hl with | [_, _], _ => rfl
    have C40 : Cal l.prog w K mg base 4 "sure_count" ["size", "many"] (sp0 K [P12, P16, P19, P25, P34, P36, P41] F_sure_count) := cal0 D40 m40 sc_sure_count B40 (b_sure_count G C7 C39)
    have D41 := funC_mk (st := s_are_unlike_holders) l41 d41 k41
    have m41 := PySem.W.mg_of X Gn a41
    have B41 := D41.binds (ps := ["value", "size"]) fun _ _ _ _ _ us hl => match us, hl with | [_, _], _ => rfl
    have C41 : Cal l.prog w K mg base 5 "are_unlike_holders" ["value", "size"] (sp0 K [P12, P16, P19, P25, P34, P36, P41] F_are_unlike_holders) := cal0 D41 m41 sc_are_unlike_holders B41 (b_are_unlike_holders G C15 (TBs (cc41, P41) (by simp)) (by simp))
    have D42 := funC_mk (st := s_is_order) l42 d42 k42
    have m42 := PySem.W.mg_of X Gn a42
    have B42 := D42.binds (ps := ["value", "size"]) fun _ _ _ _ _ us hl => match us, hl with | [_, _], _ => rfl
    have C42 : Cal l.prog w K mg base 6 "is_order" ["value", "size"] (sp0 K [P12, P16, P19, P25, P34, P36, P41] F_is_order) := cal0 D42 m42 sc_is_order B42 (b_is_order G C41)
    have D43 := funC_mk (st := s_is_lot) l43 d43 k43
    have m43 := PySem.W.mg_of X Gn a43
    have B43 := D43.binds (ps := ["value", "size"]) fun _ _ _ _ _ us hl => match us, hl with | [_, _], _ => rfl
    have C43 : Cal l.prog w K mg base 7 "is_lot" ["value", "size"] (sp0 K [P12, P16, P19, P25, P34, P36, P41] F_is_lot) := cal0 D43 m43 sc_is_lot B43 (b_is_lot G C42)
    have D44 := funC_mk (st := s_check_lot) l44 d44 k44
    have m44 := PySem.W.mg_of X Gn a44
    have B44 := D44.binds (ps := ["value", "size"]) fun _ _ _ _ _ us hl => match us, hl with | [_, _], _ => rfl
    have C44 : Cal l.prog w K mg base 8 "check_lot" ["value", "size"] (sp0 K [P12, P16, P19, P25, P34, P36, P41] F_check_lot) := cal0 D44 m44 sc_check_lot B44 (b_check_lot G C43)
    have D45 := funC_mk (st := s_holders) l45 d45 k45
    have m45 := PySem.W.mg_of X Gn a45
    have B45 := D45.binds (ps := ["deputies", "gone"]) fun _ _ _ _ _ us hl => match us, hl with | [_, _], _ => rfl
    have C45 : Cal l.prog w K mg base 9 "holders" ["deputies", "gone"] (sp0 K [P12, P16, P19, P25, P34, P36, P41] F_holders) := cal0 D45 m45 sc_holders B45 (b_holders G C17 C44 C25)
    have D46 := funC_mk (st := s_law) l46 d46 k46
    exact calL D46 sc_law (by decide) (b_law G C1 C0 C2 C4 C12 C14 C3 C20 C21 C22 C26 C27 C31 C32 C33 C36 C40 C45)
end
end Pv
set_option Elab.async false
set_option linter.all false
set_option maxRecDepth 100000
set_option maxHeartbeats 4000000
namespace Pv
open PySem PySem.Spec PyProof.Rows L2 Gq Dv Lw Fz
end Pv
set_option Elab.async false
set_option linter.all false
set_option maxRecDepth 100000
set_option maxHeartbeats 4000000
namespace Pv
open PySem PySem.Spec PyProof.Rows L2 Gq Dv Lw Fz
open Gd hiding EvA EvF EvN EvO EvP EvR EvT EvV all_dir any_dir cmp_dir col_dir ea_cons ea_nil ea_star ei_r1 ei_r2 ei_seq eo_no eo_some er_f er_n er_nil er_v ev_allG ev_and ev_anyG ev_app ev_bin ev_binN ev_call ev_chain ev_cnt ev_comp ev_comp2 ev_cst ev_frz ev_gand ev_gnot ev_gor ev_gyes ev_isTL ev_isi ev_ite ev_listR1 ev_loc ev_lst ev_not ev_or ev_own ev_sl ev_slN ev_sumG ev_tst ev_tup ev_tupG ev_tupR1 ev_un ev_unN pt_n pt_v trn_dir w_app w_asgF w_asgN w_asgV w_aug w_exp w_for w_forc w_if w_par w_ret w_unp2 w_whl
open Ha Ck Pk
open Pg
noncomputable section
theorem kVV_some {k : PD → PD → Option PD} {rs : List Rs} {r : PD} (h : kVV k rs = some r) : ∃ a0 a1, rs = [.val a0, .val a1] ∧ k a0 a1 = some r := by
  unfold kVV at h
  split at h <;> first | exact ⟨_, _, rfl, h⟩ | cases h
theorem L__law_every_l1 (z1 : PD) (s3 : List PD) (y4 : PD) (k : List PD → Option PD) {r : PD} {Q : Qs} (hk : ∀ (s6 : List PD) (ρ : Rho), Fr [.v z1, .e s3, .v y4, .o s6, .j, .j] ρ → k s6 = some r → Q.nx ρ) : ∀ (xs : List PD) (s6 : List PD) (ρ : Rho), Fr [.v z1, .e s3, .v y4, .o s6, .j, .j] ρ → G__law_every_l1 z1 s3 y4 k xs s6 = some r → V r Q (forL (stNm 4) (cAsg 3 (fBin hAdd (fLoc 3) (fComp [5] (iRng2 (aCons (fUn hNeg (fCst (.int 1))) (aCons (fLoc 0) aNil))) (stNm 5) (fTst (fBin (hEq true) (fLoc 5) (fLoc 2))) (fBin hAdd (fLoc 4) (fTup (aCons (fLoc 5) aNil)))))) xs ρ)
  | [], s6, ρ, hF, h => v_forn (hk s6 ρ hF h)
  | y7 :: xs, s6, ρ, hF, h => by
    replace h : (x1 (xBinN z_hAdd (some (.list s6)) (xL (xComp (xR2 (xc (xUn hNeg (some (.int 1))) (xc (some z1) (some [])))) (fun v8 => (bT (xBin (z_hEq true) (some v8) (some y4)))) (fun v8 => (xBin z_hAdd (some y7) (xT (xc (some v8) (some [])))))))) fun l9 => ((G__law_every_l1 z1 s3 y4 k xs) l9)) = some r := h
    refine v_forc hF rfl (fun ρ hF => ?_)
    replace hF : Fr [.v z1, .e s3, .v y4, .o s6, .v y7, .j] ρ := hF
    try dsimp only
    refine v_asgN hF (ev_binN hAdd_z (ev_own rfl) (Ha.EvN.p (ev_comp (v := 5) rfl (ei_r2 (ea_cons (Ha.EvV.fz (ev_un rfl (Ha.EvV.p ev_cst))) (ea_cons (Ha.EvV.fz (ev_loc rfl)) ea_nil))) (fun v8 => (ev_tst (ev_bin (by rw [hEq_z]) (ev_loc rfl).p (ev_loc rfl).p))) (fun v8 => (Ha.EvV.fz (ev_bin hAdd_z (ev_loc rfl).p (ev_tup (ea_cons (Ha.EvV.fz (ev_loc rfl)) ea_nil)).p)))))) rfl h (fun l9 ρ hF h => ?_)
    replace hF : Fr [.v z1, .e s3, .v y4, .o l9, .v y7, .j] ρ := hF
    exact L__law_every_l1 z1 s3 y4 k hk xs l9 _ (Fr.weak (Les.cons le_r (Les.cons le_r (Les.cons le_r (Les.cons le_r (Les.cons le_j (Les.cons le_r Les.nil)))))) hF) h
theorem L__law_every_l0 (z1 : PD) (k : List PD → Option PD) {r : PD} {Q : Qs} (hk : ∀ (s3 : List PD) (ρ : Rho), Fr [.v z1, .e s3, .j, .j, .j, .j] ρ → k s3 = some r → Q.nx ρ) : ∀ (xs : List PD) (s3 : List PD) (ρ : Rho), Fr [.v z1, .e s3, .j, .j, .j, .j] ρ → G__law_every_l0 z1 k xs s3 = some r → V r Q (forL (stNm 2) (cSeq (cAsg 3 (fLst aNil))
  (cSeq (cFor (iSeq (fLoc 1)) (stNm 4) (cAsg 3 (fBin hAdd (fLoc 3) (fComp [5] (iRng2 (aCons (fUn hNeg (fCst (.int 1))) (aCons (fLoc 0) aNil))) (stNm 5) (fTst (fBin (hEq true) (fLoc 5) (fLoc 2))) (fBin hAdd (fLoc 4) (fTup (aCons (fLoc 5) aNil)))))))
  (cAsg 1 (fVal (fLoc 3))))) xs ρ)
  | [], s3, ρ, hF, h => v_forn (hk s3 ρ hF h)
  | y4 :: xs, s3, ρ, hF, h => by
    replace h : (x1 (xS (some [])) fun l5 => (x1 (xI (some (.list s3))) fun l11 => G__law_every_l1 z1 s3 y4 (fun s10 => ((G__law_every_l0 z1 k xs) s10)) l11 l5)) = some r := h
    refine v_forc hF rfl (fun ρ hF => ?_)
    replace hF : Fr [.v z1, .e s3, .v y4, .j, .j, .j] ρ := hF
    try dsimp only
    refine v_seq ?_
    refine v_asgN hF (ev_lst ea_nil) rfl h (fun l5 ρ hF h => ?_)
    replace hF : Fr [.v z1, .e s3, .v y4, .o l5, .j, .j] ρ := hF
    try dsimp only
    refine v_seq ?_
    refine v_for hF (ei_seq (ev_frz rfl)) h (fun l11 ρ hF h => ?_)
    refine L__law_every_l1 z1 s3 y4 _ (fun s10 ρ hF h => ?_) l11 l5 ρ (Fr.weak (Les.cons le_r (Les.cons le_r (Les.cons le_r (Les.cons le_r (Les.cons le_r (Les.cons le_r Les.nil)))))) hF) h
    replace hF : Fr [.v z1, .e s3, .v y4, .o s10, .j, .j] ρ := hF
    try dsimp only
    replace hF : Fr [.v z1, .e s3, .v y4, .e s10, .j, .j] ρ := Fr.weak (Les.cons le_r (Les.cons le_r (Les.cons le_r (Les.cons le_oe (Les.cons le_r (Les.cons le_r Les.nil)))))) hF
    refine v_asgE (j := 3) hF rfl rfl h (fun ρ hF h => ?_)
    replace hF : Fr [.v z1, .e s10, .v y4, .e s10, .j, .j] ρ := hF
    exact L__law_every_l0 z1 k hk xs s10 _ (Fr.weak (Les.cons le_r (Les.cons le_r (Les.cons le_j (Les.cons le_j (Les.cons le_r (Les.cons le_r Les.nil)))))) hF) h
theorem R__law_every : ∀ ds r, G__law_every ds = some r → F__law_every ds = some r := by
  intro ds r h0
  obtain ⟨z1, rfl, h⟩ := q1_some h0
  clear h0
  refine v_run0_dir rfl ?_
  show V r (Q0 r) (c__law_every [.val z1, .no, .no, .no, .no, .no])
  have hF : Fr [.v z1, .j, .j, .j, .j, .j] ([.val z1, .no, .no, .no, .no, .no] : Rho) := (fr_v (fr_n (fr_n (fr_n (fr_n (fr_n Fr.nil))))))
  revert hF
  generalize ([.val z1, .no, .no, .no, .no, .no] : Rho) = ρ
  intro hF
  refine v_seq ?_
  refine v_asgN hF (ev_lst (ea_cons (Ha.EvV.fz (ev_tup ea_nil)) ea_nil)) rfl h (fun l2 ρ hF h => ?_)
  replace hF : Fr [.v z1, .o l2, .j, .j, .j, .j] ρ := hF
  try dsimp only
  refine v_seq ?_
  refine v_for hF (ei_r1 (ea_cons (Ha.EvV.fz (ev_loc rfl)) ea_nil)) h (fun l13 ρ hF h => ?_)
  refine L__law_every_l0 z1 _ (fun s12 ρ hF h => ?_) l13 l2 ρ (Fr.weak (Les.cons le_r (Les.cons le_oe (Les.cons le_r (Les.cons le_r (Les.cons le_r (Les.cons le_r Les.nil)))))) hF) h
  replace hF : Fr [.v z1, .e s12, .j, .j, .j, .j] ρ := hF
  try dsimp only
  exact v_ret hF (ev_frz rfl) h
theorem L__law_ratio_w0 (z1 : PD) (z2 : PD) (k : PD → PD → Option PD) {r : PD} {Q : Qs} (hk : ∀ (s5 : PD) (s6 : PD) (ρ : Rho), Fr [.v z1, .v z2, .v s5, .v s6] ρ → k s5 s6 = some r → Q.nx ρ) : ∀ (n : Nat) (s5 : PD) (s6 : PD) (ρ : Rho), Fr [.v z1, .v z2, .v s5, .v s6] ρ → G__law_ratio_w0 z1 z2 k n s5 s6 = some r → V r Q (whl (fTst (fBin (hEq true) (fLoc 3) (fCst (.int 0)))) (cParR [2, 3] (rCons (fLoc 3) (rCons (fBin (hI iMod) (fUn hInt (fLoc 2)) (fLoc 3)) rNil))) n ρ)
  | 0, s5, s6, ρ, hF, h => by cases h
  | n + 1, s5, s6, ρ, hF, h => by
    replace h : xIf (bT (xBin (z_hEq true) (some s6) (some (.int 0)))) (x1 (xrV (some s6) (xrV (xBin (hI modI) (xUn hInt (some s5)) (some s6)) (some []))) (kVV fun d7 d8 => ((G__law_ratio_w0 z1 z2 k n) d7 d8))) (k s5 s6) = some r := h
    refine v_whl hF (ev_tst (ev_bin (by rw [hEq_z]) (ev_loc rfl).p (Ha.EvV.p ev_cst))) h (fun ρ hF h => ?_) (fun ρ hF h => hk s5 s6 ρ hF h)
    try dsimp only
    refine v_par hF (er_v (ev_loc rfl) (er_v (ev_bin (by rw [z_iMod]) (ev_un rfl (ev_loc rfl).p).p (ev_loc rfl).p) er_nil)) h (fun rs ρ hF h => ?_)
    obtain ⟨d7, d8, rfl, h⟩ := kVV_some h
    refine pt_v hF rfl (fun ρ hF => ?_)
    refine pt_v hF rfl (fun ρ hF => ?_)
    refine pt_z ?_
    replace hF : Fr [.v z1, .v z2, .v d7, .v d8] ρ := hF
    exact L__law_ratio_w0 z1 z2 k hk n d7 d8 _ (Fr.weak (Les.cons le_r (Les.cons le_r (Les.cons le_r (Les.cons le_r Les.nil)))) hF) h
theorem R__law_ratio : ∀ ds r, G__law_ratio ds = some r → F__law_ratio ds = some r := by
  intro ds r h0
  obtain ⟨z1, z2, rfl, h⟩ := q2_some h0
  clear h0
  refine v_run0_dir rfl ?_
  show V r (Q0 r) (c__law_ratio [.val z1, .val z2, .no, .no])
  have hF : Fr [.v z1, .v z2, .j, .j] ([.val z1, .val z2, .no, .no] : Rho) := (fr_v (fr_v (fr_n (fr_n Fr.nil))))
  revert hF
  generalize ([.val z1, .val z2, .no, .no] : Rho) = ρ
  intro hF
  refine v_seq ?_
  refine v_par hF (er_v (ev_app (ea_cons (Ha.EvV.fz (ev_loc rfl)) ea_nil)) (er_v (ev_app (ea_cons (Ha.EvV.fz (ev_loc rfl)) ea_nil)) er_nil)) h (fun rs ρ hF h => ?_)
  obtain ⟨d3, d4, rfl, h⟩ := kVV_some h
  refine pt_v hF rfl (fun ρ hF => ?_)
  refine pt_v hF rfl (fun ρ hF => ?_)
  refine pt_z ?_
  replace hF : Fr [.v z1, .v z2, .v d3, .v d4] ρ := hF
  try dsimp only
  refine v_seq ?_
  refine L__law_ratio_w0 z1 z2 _ (fun s9 s10 ρ hF h => ?_) 1000 d3 d4 _ (Fr.weak (Les.cons le_r (Les.cons le_r (Les.cons le_r (Les.cons le_r Les.nil)))) hF) h
  replace hF : Fr [.v z1, .v z2, .v s9, .v s10] ρ := hF
  try dsimp only
  exact v_ret hF (Ha.EvV.fz (ev_ite (ev_tst (ev_bin (by rw [z_iGt]) (ev_loc rfl).p (Ha.EvV.p ev_cst))) (ev_tup (ea_cons (Ha.EvV.fz (ev_bin (by rw [z_iDiv]) (ev_loc rfl).p (ev_loc rfl).p)) (ea_cons (Ha.EvV.fz (ev_bin (by rw [z_iDiv]) (ev_loc rfl).p (ev_loc rfl).p)) ea_nil))) (ev_tup (ea_cons (Ha.EvV.fz (ev_bin rfl (Ha.EvV.p ev_cst) (ev_bin (by rw [z_iDiv]) (ev_loc rfl).p (ev_loc rfl).p).p)) (ea_cons (Ha.EvV.fz (ev_bin rfl (Ha.EvV.p ev_cst) (ev_bin (by rw [z_iDiv]) (ev_loc rfl).p (ev_loc rfl).p).p)) ea_nil))))) h
theorem R__law_plus : ∀ ds r, G__law_plus ds = some r → F__law_plus ds = some r := by
  intro ds r h0
  obtain ⟨z1, z2, rfl, h⟩ := q2_some h0
  clear h0
  refine v_run0_dir rfl ?_
  show V r (Q0 r) (c__law_plus [.val z1, .val z2])
  have hF : Fr [.v z1, .v z2] ([.val z1, .val z2] : Rho) := (fr_v (fr_v Fr.nil))
  revert hF
  generalize ([.val z1, .val z2] : Rho) = ρ
  intro hF
  exact v_ret hF (Ha.EvV.fz (ev_call R__law_ratio (ea_cons (Ha.EvV.fz (ev_bin hAdd_z (ev_bin (by rw [z_iMul]) (ev_bin hIx_z (ev_loc rfl).p (Ha.EvV.p ev_cst)).p (ev_bin hIx_z (ev_loc rfl).p (Ha.EvV.p ev_cst)).p).p (ev_bin (by rw [z_iMul]) (ev_bin hIx_z (ev_loc rfl).p (Ha.EvV.p ev_cst)).p (ev_bin hIx_z (ev_loc rfl).p (Ha.EvV.p ev_cst)).p).p)) (ea_cons (Ha.EvV.fz (ev_bin (by rw [z_iMul]) (ev_bin hIx_z (ev_loc rfl).p (Ha.EvV.p ev_cst)).p (ev_bin hIx_z (ev_loc rfl).p (Ha.EvV.p ev_cst)).p)) ea_nil)))) h
theorem R_is_plain_integer : ∀ ds r, G_is_plain_integer ds = some r → F_is_plain_integer ds = some r := by
  intro ds r h0
  obtain ⟨z1, rfl, h⟩ := q1_some h0
  clear h0
  refine v_run0_dir rfl ?_
  show V r (Q0 r) (c_is_plain_integer [.val z1])
  have hF : Fr [.v z1] ([.val z1] : Rho) := (fr_v Fr.nil)
  revert hF
  generalize ([.val z1] : Rho) = ρ
  intro hF
  exact v_ret hF (Ha.EvV.fz (ev_and (ev_isi isi_int (ev_loc rfl).p) (ev_not (ev_isi isi_bool (ev_loc rfl).p)))) h
theorem R_is_integer_from : ∀ ds r, G_is_integer_from ds = some r → F_is_integer_from ds = some r := by
  intro ds r h0
  obtain ⟨z1, z2, z3, rfl, h⟩ := q3_some h0
  clear h0
  refine v_run0_dir rfl ?_
  show V r (Q0 r) (c_is_integer_from [.val z1, .val z2, .val z3])
  have hF : Fr [.v z1, .v z2, .v z3] ([.val z1, .val z2, .val z3] : Rho) := (fr_v (fr_v (fr_v Fr.nil)))
  revert hF
  generalize ([.val z1, .val z2, .val z3] : Rho) = ρ
  intro hF
  exact v_ret hF (Ha.EvV.fz (ev_and (ev_call R_is_plain_integer (ea_cons (Ha.EvV.fz (ev_loc rfl)) ea_nil)) (ev_chain (by rw [z_iLe]) (by rw [z_iLe]) (ev_loc rfl).p (ev_loc rfl).p (ev_loc rfl).p))) h
theorem R_check_count : ∀ ds r, G_check_count ds = some r → F_check_count ds = some r := by
  intro ds r h0
  obtain ⟨z1, z2, z3, rfl, h⟩ := q3_some h0
  clear h0
  refine v_run0_dir rfl ?_
  show V r (Q0 r) (c_check_count [.val z1, .val z2, .val z3])
  have hF : Fr [.v z1, .v z2, .v z3] ([.val z1, .val z2, .val z3] : Rho) := (fr_v (fr_v (fr_v Fr.nil)))
  revert hF
  generalize ([.val z1, .val z2, .val z3] : Rho) = ρ
  intro hF
  refine v_if hF (ev_gnot (ev_tst (ev_call R_is_integer_from (ea_cons (Ha.EvV.fz (ev_loc rfl)) (ea_cons (Ha.EvV.fz (ev_loc rfl)) (ea_cons (Ha.EvV.fz (ev_loc rfl)) ea_nil)))))) h (fun ρ hF h => ?_) (fun ρ hF h => ?_)
  · skip
    cases h
  · skip
    refine v_nil ?_
    replace hF : Fr [.v z1, .v z2, .v z3] ρ := hF
    cases h; rfl
theorem L_power_of_l0 (z1 : PD) (z2 : PD) (k : PD → Option PD) {r : PD} {Q : Qs} (hk : ∀ (s4 : PD) (ρ : Rho), Fr [.v z1, .v z2, .v s4, .j] ρ → k s4 = some r → Q.nx ρ) : ∀ (xs : List PD) (s4 : PD) (ρ : Rho), Fr [.v z1, .v z2, .v s4, .j] ρ → G_power_of_l0 z1 z2 k xs s4 = some r → V r Q (forL (stNm 3) (cAsg 2 (fBin (hI iMul) (fLoc 2) (fLoc 0))) xs ρ)
  | [], s4, ρ, hF, h => v_forn (hk s4 ρ hF h)
  | y5 :: xs, s4, ρ, hF, h => by
    replace h : (x1 (xBin (hI mulI) (some s4) (some z1)) fun d6 => ((G_power_of_l0 z1 z2 k xs) d6)) = some r := h
    refine v_forc hF rfl (fun ρ hF => ?_)
    replace hF : Fr [.v z1, .v z2, .v s4, .v y5] ρ := hF
    try dsimp only
    refine v_asgV hF (ev_bin (by rw [z_iMul]) (ev_loc rfl).p (ev_loc rfl).p) rfl h (fun d6 ρ hF h => ?_)
    replace hF : Fr [.v z1, .v z2, .v d6, .v y5] ρ := hF
    exact L_power_of_l0 z1 z2 k hk xs d6 _ (Fr.weak (Les.cons le_r (Les.cons le_r (Les.cons le_r (Les.cons le_j Les.nil)))) hF) h
theorem R_power_of : ∀ ds r, G_power_of ds = some r → F_power_of ds = some r := by
  intro ds r h0
  obtain ⟨z1, z2, rfl, h⟩ := q2_some h0
  clear h0
  refine v_run0_dir rfl ?_
  show V r (Q0 r) (c_power_of [.val z1, .val z2, .no, .no])
  have hF : Fr [.v z1, .v z2, .j, .j] ([.val z1, .val z2, .no, .no] : Rho) := (fr_v (fr_v (fr_n (fr_n Fr.nil))))
  revert hF
  generalize ([.val z1, .val z2, .no, .no] : Rho) = ρ
  intro hF
  refine v_seq ?_
  refine v_asgV hF ev_cst rfl h (fun d3 ρ hF h => ?_)
  replace hF : Fr [.v z1, .v z2, .v d3, .j] ρ := hF
  try dsimp only
  refine v_seq ?_
  refine v_for hF (ei_r1 (ea_cons (Ha.EvV.fz (ev_loc rfl)) ea_nil)) h (fun l8 ρ hF h => ?_)
  refine L_power_of_l0 z1 z2 _ (fun s7 ρ hF h => ?_) l8 d3 ρ (Fr.weak (Les.cons le_r (Les.cons le_r (Les.cons le_r (Les.cons le_r Les.nil)))) hF) h
  replace hF : Fr [.v z1, .v z2, .v s7, .j] ρ := hF
  try dsimp only
  exact v_ret hF (Ha.EvV.fz (ev_loc rfl)) h
theorem R_naming_count_of : ∀ ds r, G_naming_count_of ds = some r → F_naming_count_of ds = some r := by
  intro ds r h0
  obtain ⟨z1, rfl, h⟩ := q1_some h0
  clear h0
  refine v_run0_dir rfl ?_
  show V r (Q0 r) (c_naming_count_of [.val z1])
  have hF : Fr [.v z1] ([.val z1] : Rho) := (fr_v Fr.nil)
  revert hF
  generalize ([.val z1] : Rho) = ρ
  intro hF
  exact v_ret hF (Ha.EvV.fz (ev_call R_power_of (ea_cons (Ha.EvV.fz (ev_loc rfl)) (ea_cons (Ha.EvV.fz (ev_loc rfl)) ea_nil)))) h
theorem R_ratio : ∀ ds r, G_ratio ds = some r → F_ratio ds = some r := by
  intro ds r h0
  obtain ⟨z1, z2, rfl, h⟩ := q2_some h0
  clear h0
  refine v_run0_dir rfl ?_
  show V r (Q0 r) (c_ratio [.val z1, .val z2, .no])
  have hF : Fr [.v z1, .v z2, .j] ([.val z1, .val z2, .no] : Rho) := (fr_v (fr_v (fr_n Fr.nil)))
  revert hF
  generalize ([.val z1, .val z2, .no] : Rho) = ρ
  intro hF
  refine v_seq ?_
  refine v_asgV hF (ev_app (ea_cons (Ha.EvV.fz (ev_loc rfl)) (ea_cons (Ha.EvV.fz (ev_loc rfl)) ea_nil))) rfl h (fun d3 ρ hF h => ?_)
  replace hF : Fr [.v z1, .v z2, .v d3] ρ := hF
  try dsimp only
  exact v_ret hF (Ha.EvV.fz (ev_tup (ea_cons (Ha.EvV.fz (ev_bin (by rw [z_iDiv]) (ev_loc rfl).p (ev_loc rfl).p)) (ea_cons (Ha.EvV.fz (ev_bin (by rw [z_iDiv]) (ev_loc rfl).p (ev_loc rfl).p)) ea_nil)))) h
theorem R_chain_total_of : ∀ ds r, G_chain_total_of ds = some r → F_chain_total_of ds = some r := by
  intro ds r h0
  obtain ⟨z1, z2, rfl, h⟩ := q2_some h0
  clear h0
  refine v_run0_dir rfl ?_
  show V r (Q0 r) (c_chain_total_of [.val z1, .val z2])
  have hF : Fr [.v z1, .v z2] ([.val z1, .val z2] : Rho) := (fr_v (fr_v Fr.nil))
  revert hF
  generalize ([.val z1, .val z2] : Rho) = ρ
  intro hF
  exact v_ret hF (Ha.EvV.fz (ev_bin (by rw [z_iMul]) (ev_bin (by rw [z_iMul]) (ev_app (ea_cons (Ha.EvV.fz (ev_loc rfl)) (ea_cons (Ha.EvV.fz (ev_loc rfl)) ea_nil))).p (ev_loc rfl).p).p (ev_call R_power_of (ea_cons (Ha.EvV.fz (ev_loc rfl)) (ea_cons (Ha.EvV.fz (ev_bin rfl (ev_loc rfl).p (ev_loc rfl).p)) ea_nil))).p)) h
theorem R_length_chances : ∀ ds r, G_length_chances ds = some r → F_length_chances ds = some r := by
  intro ds r h0
  obtain ⟨z1, rfl, h⟩ := q1_some h0
  clear h0
  refine v_run0_dir rfl ?_
  show V r (Q0 r) (c_length_chances [.val z1, .no])
  have hF : Fr [.v z1, .j] ([.val z1, .no] : Rho) := (fr_v (fr_n Fr.nil))
  revert hF
  generalize ([.val z1, .no] : Rho) = ρ
  intro hF
  refine v_seq ?_
  refine v_exp hF (ev_call R_check_count (ea_cons (Ha.EvV.fz (ev_loc rfl)) (ea_cons (Ha.EvV.fz ev_cst) (ea_cons (Ha.EvV.fz ev_cst) ea_nil)))) h (fun ρ hF h => ?_)
  replace hF : Fr [.v z1, .j] ρ := hF
  try dsimp only
  refine v_seq ?_
  refine v_asgV hF (ev_bin (by rw [z_iMul]) (ev_loc rfl).p (ev_call R_naming_count_of (ea_cons (Ha.EvV.fz (ev_loc rfl)) ea_nil)).p) rfl h (fun d2 ρ hF h => ?_)
  replace hF : Fr [.v z1, .v d2] ρ := hF
  try dsimp only
  exact v_ret hF (Ha.EvV.fz (ev_tupG (tr1 rfl (fun v3 => ev_gyes) (fun v3 => (Ha.EvV.fz (ev_call R_ratio (ea_cons (Ha.EvV.fz (ev_call R_chain_total_of (ea_cons (Ha.EvV.fz (ev_loc rfl)) (ea_cons (Ha.EvV.fz (ev_loc rfl)) ea_nil)))) (ea_cons (Ha.EvV.fz (ev_loc rfl)) ea_nil)))))) (ei_r2 (ea_cons (Ha.EvV.fz ev_cst) (ea_cons (Ha.EvV.fz (ev_bin hAdd_z (ev_loc rfl).p (Ha.EvV.p ev_cst))) ea_nil))))) h
theorem L_chance_of_out_l0 (z1 : PD) (z2 : PD) (k : PD → PD → PD → Option PD) {r : PD} {Q : Qs} (hk : ∀ (s6 : PD) (s7 : PD) (s8 : PD) (ρ : Rho), Fr [.v z1, .v z2, .v s6, .v s7, .v s8, .j] ρ → k s6 s7 s8 = some r → Q.nx ρ) : ∀ (xs : List PD) (s6 : PD) (s7 : PD) (s8 : PD) (ρ : Rho), Fr [.v z1, .v z2, .v s6, .v s7, .v s8, .j] ρ → G_chance_of_out_l0 z1 z2 k xs s6 s7 s8 = some r → V r Q (forL (stNm 5) (cSeq (cAsg 2 (fBin hAdd (fBin (hI iMul) (fLoc 2) (fLoc 0)) (fBin (hI iMul) (fLoc 4) (fLoc 5))))
  (cSeq (cAsg 3 (fBin (hI iMul) (fLoc 3) (fLoc 0)))
  (cAsg 4 (fBin (hI iMul) (fLoc 4) (fBin (hI iSub) (fLoc 1) (fLoc 5)))))) xs ρ)
  | [], s6, s7, s8, ρ, hF, h => v_forn (hk s6 s7 s8 ρ hF h)
  | y9 :: xs, s6, s7, s8, ρ, hF, h => by
    replace h : (x1 (xBin z_hAdd (xBin (hI mulI) (some s6) (some z1)) (xBin (hI mulI) (some s8) (some y9))) fun d10 => (x1 (xBin (hI mulI) (some s7) (some z1)) fun d11 => (x1 (xBin (hI mulI) (some s8) (xBin (hI iSub) (some z2) (some y9))) fun d12 => ((G_chance_of_out_l0 z1 z2 k xs) d10 d11 d12)))) = some r := h
    refine v_forc hF rfl (fun ρ hF => ?_)
    replace hF : Fr [.v z1, .v z2, .v s6, .v s7, .v s8, .v y9] ρ := hF
    try dsimp only
    refine v_seq ?_
    refine v_asgV hF (ev_bin hAdd_z (ev_bin (by rw [z_iMul]) (ev_loc rfl).p (ev_loc rfl).p).p (ev_bin (by rw [z_iMul]) (ev_loc rfl).p (ev_loc rfl).p).p) rfl h (fun d10 ρ hF h => ?_)
    replace hF : Fr [.v z1, .v z2, .v d10, .v s7, .v s8, .v y9] ρ := hF
    try dsimp only
    refine v_seq ?_
    refine v_asgV hF (ev_bin (by rw [z_iMul]) (ev_loc rfl).p (ev_loc rfl).p) rfl h (fun d11 ρ hF h => ?_)
    replace hF : Fr [.v z1, .v z2, .v d10, .v d11, .v s8, .v y9] ρ := hF
    try dsimp only
    refine v_asgV hF (ev_bin (by rw [z_iMul]) (ev_loc rfl).p (ev_bin rfl (ev_loc rfl).p (ev_loc rfl).p).p) rfl h (fun d12 ρ hF h => ?_)
    replace hF : Fr [.v z1, .v z2, .v d10, .v d11, .v d12, .v y9] ρ := hF
    exact L_chance_of_out_l0 z1 z2 k hk xs d10 d11 d12 _ (Fr.weak (Les.cons le_r (Les.cons le_r (Les.cons le_r (Les.cons le_r (Les.cons le_r (Les.cons le_j Les.nil)))))) hF) h
theorem R_chance_of_out : ∀ ds r, G_chance_of_out ds = some r → F_chance_of_out ds = some r := by
  intro ds r h0
  obtain ⟨z1, z2, rfl, h⟩ := q2_some h0
  clear h0
  refine v_run0_dir rfl ?_
  show V r (Q0 r) (c_chance_of_out [.val z1, .val z2, .no, .no, .no, .no])
  have hF : Fr [.v z1, .v z2, .j, .j, .j, .j] ([.val z1, .val z2, .no, .no, .no, .no] : Rho) := (fr_v (fr_v (fr_n (fr_n (fr_n (fr_n Fr.nil))))))
  revert hF
  generalize ([.val z1, .val z2, .no, .no, .no, .no] : Rho) = ρ
  intro hF
  refine v_seq ?_
  refine v_asgV hF ev_cst rfl h (fun d3 ρ hF h => ?_)
  replace hF : Fr [.v z1, .v z2, .v d3, .j, .j, .j] ρ := hF
  try dsimp only
  refine v_seq ?_
  refine v_asgV hF ev_cst rfl h (fun d4 ρ hF h => ?_)
  replace hF : Fr [.v z1, .v z2, .v d3, .v d4, .j, .j] ρ := hF
  try dsimp only
  refine v_seq ?_
  refine v_asgV hF ev_cst rfl h (fun d5 ρ hF h => ?_)
  replace hF : Fr [.v z1, .v z2, .v d3, .v d4, .v d5, .j] ρ := hF
  try dsimp only
  refine v_seq ?_
  refine v_for hF (ei_r2 (ea_cons (Ha.EvV.fz ev_cst) (ea_cons (Ha.EvV.fz (ev_bin hAdd_z (ev_loc rfl).p (Ha.EvV.p ev_cst))) ea_nil))) h (fun l16 ρ hF h => ?_)
  refine L_chance_of_out_l0 z1 z2 _ (fun s13 s14 s15 ρ hF h => ?_) l16 d3 d4 d5 ρ (Fr.weak (Les.cons le_r (Les.cons le_r (Les.cons le_r (Les.cons le_r (Les.cons le_r (Les.cons le_r Les.nil)))))) hF) h
  replace hF : Fr [.v z1, .v z2, .v s13, .v s14, .v s15, .j] ρ := hF
  try dsimp only
  exact v_ret hF (Ha.EvV.fz (ev_tup (ea_cons (Ha.EvV.fz (ev_loc rfl)) (ea_cons (Ha.EvV.fz (ev_loc rfl)) ea_nil)))) h
theorem R_random_out : ∀ ds r, G_random_out ds = some r → F_random_out ds = some r := by
  intro ds r h0
  obtain ⟨z1, z2, rfl, h⟩ := q2_some h0
  clear h0
  refine v_run0_dir rfl ?_
  show V r (Q0 r) (c_random_out [.val z1, .val z2, .no, .no])
  have hF : Fr [.v z1, .v z2, .j, .j] ([.val z1, .val z2, .no, .no] : Rho) := (fr_v (fr_v (fr_n (fr_n Fr.nil))))
  revert hF
  generalize ([.val z1, .val z2, .no, .no] : Rho) = ρ
  intro hF
  refine v_seq ?_
  refine v_exp hF (ev_call R_check_count (ea_cons (Ha.EvV.fz (ev_loc rfl)) (ea_cons (Ha.EvV.fz ev_cst) (ea_cons (Ha.EvV.fz ev_cst) ea_nil)))) h (fun ρ hF h => ?_)
  replace hF : Fr [.v z1, .v z2, .j, .j] ρ := hF
  try dsimp only
  refine v_seq ?_
  refine v_exp hF (ev_call R_check_count (ea_cons (Ha.EvV.fz (ev_loc rfl)) (ea_cons (Ha.EvV.fz ev_cst) (ea_cons (Ha.EvV.fz (ev_loc rfl)) ea_nil)))) h (fun ρ hF h => ?_)
  replace hF : Fr [.v z1, .v z2, .j, .j] ρ := hF
  try dsimp only
  refine v_seq ?_
  refine v_unp2 hF (ev_call R_chance_of_out (ea_cons (Ha.EvV.fz (ev_loc rfl)) (ea_cons (Ha.EvV.fz (ev_loc rfl)) ea_nil))) rfl (fun _ => rfl) h (fun d3 d4 ρ hF h => ?_)
  replace hF : Fr [.v z1, .v z2, .v d3, .v d4] ρ := hF
  try dsimp only
  exact v_ret hF (Ha.EvV.fz (ev_call R_ratio (ea_cons (Ha.EvV.fz (ev_loc rfl)) (ea_cons (Ha.EvV.fz (ev_loc rfl)) ea_nil)))) h
theorem R_is_holder : ∀ ds r, G_is_holder ds = some r → F_is_holder ds = some r := by
  intro ds r h0
  obtain ⟨z1, z2, rfl, h⟩ := q2_some h0
  clear h0
  refine v_run0_dir rfl ?_
  show V r (Q0 r) (c_is_holder [.val z1, .val z2])
  have hF : Fr [.v z1, .v z2] ([.val z1, .val z2] : Rho) := (fr_v (fr_v Fr.nil))
  revert hF
  generalize ([.val z1, .val z2] : Rho) = ρ
  intro hF
  exact v_ret hF (Ha.EvV.fz (ev_call R_is_integer_from (ea_cons (Ha.EvV.fz (ev_loc rfl)) (ea_cons (Ha.EvV.fz ev_cst) (ea_cons (Ha.EvV.fz (ev_bin rfl (ev_loc rfl).p (Ha.EvV.p ev_cst))) ea_nil))))) h
theorem R_is_deputies : ∀ ds r, G_is_deputies ds = some r → F_is_deputies ds = some r := by
  intro ds r h0
  obtain ⟨z1, rfl, h⟩ := q1_some h0
  clear h0
  refine v_run0_dir rfl ?_
  show V r (Q0 r) (c_is_deputies [.val z1])
  have hF : Fr [.v z1] ([.val z1] : Rho) := (fr_v Fr.nil)
  revert hF
  generalize ([.val z1] : Rho) = ρ
  intro hF
  refine v_seq ?_
  refine v_if hF (ev_gor (ev_gnot (ev_tst (ev_isi isi_tuple (ev_loc rfl).p))) (ev_gnot (ev_tst (ev_chain (by rw [z_iLe]) (by rw [z_iLe]) (Ha.EvV.p ev_cst) (ev_un hLen_z (ev_loc rfl).p).p (Ha.EvV.p ev_cst))))) h (fun ρ hF h => ?_) (fun ρ hF h => ?_)
  · skip
    exact v_ret hF (Ha.EvV.fz ev_cst) h
  · skip
    refine v_nil ?_
    replace hF : Fr [.v z1] ρ := hF
    try dsimp only
    exact v_ret hF (Ha.EvV.fz (ev_allG (tr1 rfl (fun v2 => ev_gyes) (fun v2 => (Ha.EvV.fz (ev_and (ev_call R_is_holder (ea_cons (Ha.EvV.fz (ev_bin hIx_z (ev_loc rfl).p (ev_loc rfl).p)) (ea_cons (Ha.EvV.fz (ev_un hLen_z (ev_loc rfl).p)) ea_nil))) (ev_bin (by rw [hEq_z]) (ev_bin hIx_z (ev_loc rfl).p (ev_loc rfl).p).p (ev_loc rfl).p))))) (ei_r1 (ea_cons (Ha.EvV.fz (ev_un hLen_z (ev_loc rfl).p)) ea_nil)))) h
theorem R_check_deputies : ∀ ds r, G_check_deputies ds = some r → F_check_deputies ds = some r := by
  intro ds r h0
  obtain ⟨z1, rfl, h⟩ := q1_some h0
  clear h0
  refine v_run0_dir rfl ?_
  show V r (Q0 r) (c_check_deputies [.val z1])
  have hF : Fr [.v z1] ([.val z1] : Rho) := (fr_v Fr.nil)
  revert hF
  generalize ([.val z1] : Rho) = ρ
  intro hF
  refine v_if hF (ev_gnot (ev_tst (ev_call R_is_deputies (ea_cons (Ha.EvV.fz (ev_loc rfl)) ea_nil)))) h (fun ρ hF h => ?_) (fun ρ hF h => ?_)
  · skip
    cases h
  · skip
    refine v_nil ?_
    replace hF : Fr [.v z1] ρ := hF
    cases h; rfl
theorem L_chain_of_w0 (z1 : PD) (z2 : PD) (k : List PD → PD → Option PD) {r : PD} {Q : Qs} (hk : ∀ (s5 : List PD) (s6 : PD) (ρ : Rho), Fr [.v z1, .v z2, .o s5, .v s6] ρ → k s5 s6 = some r → Q.nx ρ) : ∀ (n : Nat) (s5 : List PD) (s6 : PD) (ρ : Rho), Fr [.v z1, .v z2, .o s5, .v s6] ρ → G_chain_of_w0 z1 z2 k n s5 s6 = some r → V r Q (whl (gAnd (fTst (fBin (hEq true) (fLoc 3) (fCst (.int (-1))))) (fTst (fBin (hInX true) (fLoc 3) (fLoc 2)))) (cSeq (cApp 2 (fLoc 3))
  (cAsg 3 (fBin hIx (fLoc 0) (fLoc 3)))) n ρ)
  | 0, s5, s6, ρ, hF, h => by cases h
  | n + 1, s5, s6, ρ, hF, h => by
    replace h : xIf (tAnd (bT (xBin (z_hEq true) (some s6) (some (.int (-1))))) (bT (xBin (z_hInX true) (some s6) (some (.list s5))))) (x1 (some s6) fun d7 => xapp s5 (x1 (xBin z_hIx (some z1) (some s6)) fun d8 => ((G_chain_of_w0 z1 z2 k n) (appR s5 [d7]) d8))) (k s5 s6) = some r := h
    refine v_whl hF (ev_gand (ev_tst (ev_bin (by rw [hEq_z]) (ev_loc rfl).p (Ha.EvV.p ev_cst))) (ev_tst (ev_bin (by rw [hInX_z]) (ev_loc rfl).p (ev_own rfl)))) h (fun ρ hF h => ?_) (fun ρ hF h => hk s5 s6 ρ hF h)
    try dsimp only
    refine v_seq ?_
    refine v_app hF rfl (Ha.EvV.fz (ev_loc rfl)) h (fun d7 ρ hF h => ?_)
    replace hF : Fr [.v z1, .v z2, .o (appR s5 [d7]), .v s6] ρ := hF
    try dsimp only
    refine v_asgV hF (ev_bin hIx_z (ev_loc rfl).p (ev_loc rfl).p) rfl h (fun d8 ρ hF h => ?_)
    replace hF : Fr [.v z1, .v z2, .o (appR s5 [d7]), .v d8] ρ := hF
    exact L_chain_of_w0 z1 z2 k hk n (appR s5 [d7]) d8 _ (Fr.weak (Les.cons le_r (Les.cons le_r (Les.cons le_r (Les.cons le_r Les.nil)))) hF) h
theorem R_chain_of : ∀ ds r, G_chain_of ds = some r → F_chain_of ds = some r := by
  intro ds r h0
  obtain ⟨z1, z2, rfl, h⟩ := q2_some h0
  clear h0
  refine v_run0_dir rfl ?_
  show V r (Q0 r) (c_chain_of [.val z1, .val z2, .no, .no])
  have hF : Fr [.v z1, .v z2, .j, .j] ([.val z1, .val z2, .no, .no] : Rho) := (fr_v (fr_v (fr_n (fr_n Fr.nil))))
  revert hF
  generalize ([.val z1, .val z2, .no, .no] : Rho) = ρ
  intro hF
  refine v_seq ?_
  refine v_asgN hF (ev_lst ea_nil) rfl h (fun l3 ρ hF h => ?_)
  replace hF : Fr [.v z1, .v z2, .o l3, .j] ρ := hF
  try dsimp only
  refine v_seq ?_
  refine v_asgV hF (ev_loc rfl) rfl h (fun d4 ρ hF h => ?_)
  replace hF : Fr [.v z1, .v z2, .o l3, .v d4] ρ := hF
  try dsimp only
  refine v_seq ?_
  refine L_chain_of_w0 z1 z2 _ (fun s9 s10 ρ hF h => ?_) 1000 l3 d4 _ (Fr.weak (Les.cons le_r (Les.cons le_r (Les.cons le_r (Les.cons le_r Les.nil)))) hF) h
  replace hF : Fr [.v z1, .v z2, .o s9, .v s10] ρ := hF
  try dsimp only
  exact v_ret hF (Ha.EvV.fz (ev_un rfl (ev_own rfl))) h
theorem R_least_chain_of : ∀ ds r, G_least_chain_of ds = some r → F_least_chain_of ds = some r := by
  intro ds r h0
  obtain ⟨z1, rfl, h⟩ := q1_some h0
  clear h0
  refine v_run0_dir rfl ?_
  show V r (Q0 r) (c_least_chain_of [.val z1])
  have hF : Fr [.v z1] ([.val z1] : Rho) := (fr_v Fr.nil)
  revert hF
  generalize ([.val z1] : Rho) = ρ
  intro hF
  exact v_ret hF (Ha.EvV.fz (ev_minG (tr1 rfl (fun v2 => ev_gyes) (fun v2 => (Ha.EvV.fz (ev_un hLen_z (ev_call R_chain_of (ea_cons (Ha.EvV.fz (ev_loc rfl)) (ea_cons (Ha.EvV.fz (ev_loc rfl)) ea_nil))).p)))) (ei_r1 (ea_cons (Ha.EvV.fz (ev_un hLen_z (ev_loc rfl).p)) ea_nil)))) h
theorem R_surest : ∀ ds r, G_surest ds = some r → F_surest ds = some r := by
  intro ds r h0
  obtain ⟨z1, rfl, h⟩ := q1_some h0
  clear h0
  refine v_run0_dir rfl ?_
  show V r (Q0 r) (c_surest [.val z1])
  have hF : Fr [.v z1] ([.val z1] : Rho) := (fr_v Fr.nil)
  revert hF
  generalize ([.val z1] : Rho) = ρ
  intro hF
  refine v_seq ?_
  refine v_exp hF (ev_call R_check_deputies (ea_cons (Ha.EvV.fz (ev_loc rfl)) ea_nil)) h (fun ρ hF h => ?_)
  replace hF : Fr [.v z1] ρ := hF
  try dsimp only
  exact v_ret hF (Ha.EvV.fz (ev_bin rfl (ev_call R_least_chain_of (ea_cons (Ha.EvV.fz (ev_loc rfl)) ea_nil)).p (Ha.EvV.p ev_cst))) h
theorem R__law_by : ∀ ds r, G__law_by ds = some r → F__law_by ds = some r := by
  intro ds r h0
  obtain ⟨z1, z2, rfl, h⟩ := q2_some h0
  clear h0
  refine v_run0_dir rfl ?_
  show V r (Q0 r) (c__law_by [.val z1, .val z2])
  have hF : Fr [.v z1, .v z2] ([.val z1, .val z2] : Rho) := (fr_v (fr_v Fr.nil))
  revert hF
  generalize ([.val z1, .val z2] : Rho) = ρ
  intro hF
  exact v_ret hF (Ha.EvV.fz (ev_call R__law_ratio (ea_cons (Ha.EvV.fz (ev_bin (by rw [z_iMul]) (ev_bin hIx_z (ev_loc rfl).p (Ha.EvV.p ev_cst)).p (ev_bin hIx_z (ev_loc rfl).p (Ha.EvV.p ev_cst)).p)) (ea_cons (Ha.EvV.fz (ev_bin (by rw [z_iMul]) (ev_bin hIx_z (ev_loc rfl).p (Ha.EvV.p ev_cst)).p (ev_bin hIx_z (ev_loc rfl).p (Ha.EvV.p ev_cst)).p)) ea_nil)))) h
theorem R_naming_count : ∀ ds r, G_naming_count ds = some r → F_naming_count ds = some r := by
  intro ds r h0
  obtain ⟨z1, rfl, h⟩ := q1_some h0
  clear h0
  refine v_run0_dir rfl ?_
  show V r (Q0 r) (c_naming_count [.val z1])
  have hF : Fr [.v z1] ([.val z1] : Rho) := (fr_v Fr.nil)
  revert hF
  generalize ([.val z1] : Rho) = ρ
  intro hF
  refine v_seq ?_
  refine v_exp hF (ev_call R_check_count (ea_cons (Ha.EvV.fz (ev_loc rfl)) (ea_cons (Ha.EvV.fz ev_cst) (ea_cons (Ha.EvV.fz ev_cst) ea_nil)))) h (fun ρ hF h => ?_)
  replace hF : Fr [.v z1] ρ := hF
  try dsimp only
  exact v_ret hF (Ha.EvV.fz (ev_call R_naming_count_of (ea_cons (Ha.EvV.fz (ev_loc rfl)) ea_nil))) h
theorem R_all_lots : ∀ ds r, G_all_lots ds = some r → F_all_lots ds = some r := by
  intro ds r h0
  obtain ⟨z1, rfl, h⟩ := q1_some h0
  clear h0
  refine v_run0_dir rfl ?_
  show V r (Q0 r) (c_all_lots [.val z1, .no, .no])
  have hF : Fr [.v z1, .j, .j] ([.val z1, .no, .no] : Rho) := (fr_v (fr_n (fr_n Fr.nil)))
  revert hF
  generalize ([.val z1, .no, .no] : Rho) = ρ
  intro hF
  exact v_ret hF (Ha.EvN.fz (ev_compc (v := 1) (w := 2) rfl rfl (by decide) (ei_r1 (ea_cons (Ha.EvV.fz (ev_bin hAdd_z (ev_loc rfl).p (Ha.EvV.p ev_cst))) ea_nil)) (fun v2 => ev_gyes) (fun v2 => (ei_cmbR (ev_loc rfl) (ev_loc rfl))) (fun v2 v3 => ev_gyes) (fun v2 v3 => (Ha.EvV.fz (ev_loc rfl))))) h
theorem L_holder_of_l0 (z1 : PD) (z2 : PD) (z3 : PD) (k : Option PD) {r : PD} {Q : Qs} (hk : ∀  (ρ : Rho), Fr [.v z1, .v z2, .v z3, .j] ρ → k = some r → Q.nx ρ) : ∀ (xs : List PD)  (ρ : Rho), Fr [.v z1, .v z2, .v z3, .j] ρ → G_holder_of_l0 z1 z2 z3 k xs  = some r → V r Q (forL (stNm 3) (cIf (fTst (fBin (hInX true) (fLoc 3) (fLoc 1))) (cRet (fLoc 3)) cNil) xs ρ)
  | [], ρ, hF, h => v_forn (hk  ρ hF h)
  | y4 :: xs, ρ, hF, h => by
    replace h : (xIf (bT (xBin (z_hInX true) (some y4) (some z2))) (some y4) (G_holder_of_l0 z1 z2 z3 k xs)) = some r := h
    refine v_forc hF rfl (fun ρ hF => ?_)
    replace hF : Fr [.v z1, .v z2, .v z3, .v y4] ρ := hF
    try dsimp only
    refine v_if hF (ev_tst (ev_bin (by rw [hInX_z]) (ev_loc rfl).p (ev_loc rfl).p)) h (fun ρ hF h => ?_) (fun ρ hF h => ?_)
    · skip
      exact v_ret hF (Ha.EvV.fz (ev_loc rfl)) h
    · skip
      refine v_nil ?_
      replace hF : Fr [.v z1, .v z2, .v z3, .v y4] ρ := hF
      exact L_holder_of_l0 z1 z2 z3 k hk xs  _ (Fr.weak (Les.cons le_r (Les.cons le_r (Les.cons le_r (Les.cons le_j Les.nil)))) hF) h
theorem R_holder_of : ∀ ds r, G_holder_of ds = some r → F_holder_of ds = some r := by
  intro ds r h0
  obtain ⟨z1, z2, z3, rfl, h⟩ := q3_some h0
  clear h0
  refine v_run0_dir rfl ?_
  show V r (Q0 r) (c_holder_of [.val z1, .val z2, .val z3, .no])
  have hF : Fr [.v z1, .v z2, .v z3, .j] ([.val z1, .val z2, .val z3, .no] : Rho) := (fr_v (fr_v (fr_v (fr_n Fr.nil))))
  revert hF
  generalize ([.val z1, .val z2, .val z3, .no] : Rho) = ρ
  intro hF
  refine v_seq ?_
  refine v_for hF (ei_seq (Ha.EvV.fz (ev_call R_chain_of (ea_cons (Ha.EvV.fz (ev_loc rfl)) (ea_cons (Ha.EvV.fz (ev_loc rfl)) ea_nil))))) h (fun l5 ρ hF h => ?_)
  refine L_holder_of_l0 z1 z2 z3 _ (fun ρ hF h => ?_) l5  ρ (Fr.weak (Les.cons le_r (Les.cons le_r (Les.cons le_r (Les.cons le_r Les.nil)))) hF) h
  replace hF : Fr [.v z1, .v z2, .v z3, .j] ρ := hF
  try dsimp only
  exact v_ret hF (Ha.EvV.fz ev_cst) h
theorem R_holders_of : ∀ ds r, G_holders_of ds = some r → F_holders_of ds = some r := by
  intro ds r h0
  obtain ⟨z1, z2, rfl, h⟩ := q2_some h0
  clear h0
  refine v_run0_dir rfl ?_
  show V r (Q0 r) (c_holders_of [.val z1, .val z2])
  have hF : Fr [.v z1, .v z2] ([.val z1, .val z2] : Rho) := (fr_v (fr_v Fr.nil))
  revert hF
  generalize ([.val z1, .val z2] : Rho) = ρ
  intro hF
  exact v_ret hF (Ha.EvV.fz (ev_tupG (tr1 rfl (fun v3 => ev_gyes) (fun v3 => (Ha.EvV.fz (ev_call R_holder_of (ea_cons (Ha.EvV.fz (ev_loc rfl)) (ea_cons (Ha.EvV.fz (ev_loc rfl)) (ea_cons (Ha.EvV.fz (ev_loc rfl)) ea_nil))))))) (ei_r1 (ea_cons (Ha.EvV.fz (ev_un hLen_z (ev_loc rfl).p)) ea_nil)))) h
theorem R_safe_count : ∀ ds r, G_safe_count ds = some r → F_safe_count ds = some r := by
  intro ds r h0
  obtain ⟨z1, rfl, h⟩ := q1_some h0
  clear h0
  refine v_run0_dir rfl ?_
  show V r (Q0 r) (c_safe_count [.val z1, .no])
  have hF : Fr [.v z1, .j] ([.val z1, .no] : Rho) := (fr_v (fr_n Fr.nil))
  revert hF
  generalize ([.val z1, .no] : Rho) = ρ
  intro hF
  refine v_seq ?_
  refine v_exp hF (ev_call R_check_deputies (ea_cons (Ha.EvV.fz (ev_loc rfl)) ea_nil)) h (fun ρ hF h => ?_)
  replace hF : Fr [.v z1, .j] ρ := hF
  try dsimp only
  exact v_ret hF (Ha.EvV.fz (ev_un hLen_z (Ha.EvN.p (ev_comp (v := 1) rfl (ei_seq (Ha.EvV.fz (ev_call R_all_lots (ea_cons (Ha.EvV.fz (ev_un hLen_z (ev_loc rfl).p)) ea_nil)))) (fun v2 => (ev_tst (ev_bin (by rw [hInX_z]) (Ha.EvV.p ev_cst) (ev_call R_holders_of (ea_cons (Ha.EvV.fz (ev_loc rfl)) (ea_cons (Ha.EvV.fz (ev_loc rfl)) ea_nil))).p))) (fun v2 => (Ha.EvV.fz (ev_loc rfl))))))) h
theorem R__law_less : ∀ ds r, G__law_less ds = some r → F__law_less ds = some r := by
  intro ds r h0
  obtain ⟨z1, z2, rfl, h⟩ := q2_some h0
  clear h0
  refine v_run0_dir rfl ?_
  show V r (Q0 r) (c__law_less [.val z1, .val z2])
  have hF : Fr [.v z1, .v z2] ([.val z1, .val z2] : Rho) := (fr_v (fr_v Fr.nil))
  revert hF
  generalize ([.val z1, .val z2] : Rho) = ρ
  intro hF
  exact v_ret hF (Ha.EvV.fz (ev_bin (by rw [z_iLt]) (ev_bin (by rw [z_iMul]) (ev_bin hIx_z (ev_loc rfl).p (Ha.EvV.p ev_cst)).p (ev_bin hIx_z (ev_loc rfl).p (Ha.EvV.p ev_cst)).p).p (ev_bin (by rw [z_iMul]) (ev_bin hIx_z (ev_loc rfl).p (Ha.EvV.p ev_cst)).p (ev_bin hIx_z (ev_loc rfl).p (Ha.EvV.p ev_cst)).p).p)) h
theorem L_sum_of_l0 (z1 : PD) (k : PD → PD → Option PD) {r : PD} {Q : Qs} (hk : ∀ (s4 : PD) (s5 : PD) (ρ : Rho), Fr [.v z1, .v s4, .v s5, .j, .j] ρ → k s4 s5 = some r → Q.nx ρ) : ∀ (xs : List PD) (s4 : PD) (s5 : PD) (ρ : Rho), Fr [.v z1, .v s4, .v s5, .j, .j] ρ → G_sum_of_l0 z1 k xs s4 s5 = some r → V r Q (forL (stTup [3, 4]) (cUnp [1, 2] (fCall0 F_ratio (aCons (fBin hAdd (fBin (hI iMul) (fLoc 1) (fLoc 4)) (fBin (hI iMul) (fLoc 3) (fLoc 2))) (aCons (fBin (hI iMul) (fLoc 2) (fLoc 4)) aNil)))) xs ρ)
  | [], s4, s5, ρ, hF, h => v_forn (hk s4 s5 ρ hF h)
  | y6 :: xs, s4, s5, ρ, hF, h => by
    replace h : (p2 y6 fun y7 y8 => (x1 (x1 (xc (xBin z_hAdd (xBin (hI mulI) (some s4) (some y8)) (xBin (hI mulI) (some y7) (some s5))) (xc (xBin (hI mulI) (some s5) (some y8)) (some []))) G_ratio) fun d => p2 d fun d9 d10 => ((G_sum_of_l0 z1 k xs) d9 d10))) = some r := h
    refine v_forc2 hF rfl (fun _ => rfl) h (fun y7 y8 ρ hF h => ?_)
    replace hF : Fr [.v z1, .v s4, .v s5, .v y7, .v y8] ρ := hF
    try dsimp only
    refine v_unp2 hF (ev_call R_ratio (ea_cons (Ha.EvV.fz (ev_bin hAdd_z (ev_bin (by rw [z_iMul]) (ev_loc rfl).p (ev_loc rfl).p).p (ev_bin (by rw [z_iMul]) (ev_loc rfl).p (ev_loc rfl).p).p)) (ea_cons (Ha.EvV.fz (ev_bin (by rw [z_iMul]) (ev_loc rfl).p (ev_loc rfl).p)) ea_nil))) rfl (fun _ => rfl) h (fun d9 d10 ρ hF h => ?_)
    replace hF : Fr [.v z1, .v d9, .v d10, .v y7, .v y8] ρ := hF
    exact L_sum_of_l0 z1 k hk xs d9 d10 _ (Fr.weak (Les.cons le_r (Les.cons le_r (Les.cons le_r (Les.cons le_j (Les.cons le_j Les.nil))))) hF) h
theorem R_sum_of : ∀ ds r, G_sum_of ds = some r → F_sum_of ds = some r := by
  intro ds r h0
  obtain ⟨z1, rfl, h⟩ := q1_some h0
  clear h0
  refine v_run0_dir rfl ?_
  show V r (Q0 r) (c_sum_of [.val z1, .no, .no, .no, .no])
  have hF : Fr [.v z1, .j, .j, .j, .j] ([.val z1, .no, .no, .no, .no] : Rho) := (fr_v (fr_n (fr_n (fr_n (fr_n Fr.nil)))))
  revert hF
  generalize ([.val z1, .no, .no, .no, .no] : Rho) = ρ
  intro hF
  refine v_seq ?_
  refine v_asgV hF ev_cst rfl h (fun d2 ρ hF h => ?_)
  replace hF : Fr [.v z1, .v d2, .j, .j, .j] ρ := hF
  try dsimp only
  refine v_seq ?_
  refine v_asgV hF ev_cst rfl h (fun d3 ρ hF h => ?_)
  replace hF : Fr [.v z1, .v d2, .v d3, .j, .j] ρ := hF
  try dsimp only
  refine v_seq ?_
  refine v_for hF (ei_seq (Ha.EvV.fz (ev_loc rfl))) h (fun l13 ρ hF h => ?_)
  refine L_sum_of_l0 z1 _ (fun s11 s12 ρ hF h => ?_) l13 d2 d3 ρ (Fr.weak (Les.cons le_r (Les.cons le_r (Les.cons le_r (Les.cons le_r (Les.cons le_r Les.nil))))) hF) h
  replace hF : Fr [.v z1, .v s11, .v s12, .j, .j] ρ := hF
  try dsimp only
  exact v_ret hF (Ha.EvV.fz (ev_tup (ea_cons (Ha.EvV.fz (ev_loc rfl)) (ea_cons (Ha.EvV.fz (ev_loc rfl)) ea_nil)))) h
theorem R_ahead_of : ∀ ds r, G_ahead_of ds = some r → F_ahead_of ds = some r := by
  intro ds r h0
  obtain ⟨z1, z2, z3, rfl, h⟩ := q3_some h0
  clear h0
  refine v_run0_dir rfl ?_
  show V r (Q0 r) (c_ahead_of [.val z1, .val z2, .val z3, .no])
  have hF : Fr [.v z1, .v z2, .v z3, .j] ([.val z1, .val z2, .val z3, .no] : Rho) := (fr_v (fr_v (fr_v (fr_n Fr.nil))))
  revert hF
  generalize ([.val z1, .val z2, .val z3, .no] : Rho) = ρ
  intro hF
  refine v_seq ?_
  refine v_asgV hF (ev_call R_chain_of (ea_cons (Ha.EvV.fz (ev_loc rfl)) (ea_cons (Ha.EvV.fz (ev_loc rfl)) ea_nil))) rfl h (fun d4 ρ hF h => ?_)
  replace hF : Fr [.v z1, .v z2, .v z3, .v d4] ρ := hF
  try dsimp only
  refine v_seq ?_
  refine v_if hF (ev_tst (ev_bin (by rw [hEq_z]) (ev_loc rfl).p (Ha.EvV.p ev_cst))) h (fun ρ hF h => ?_) (fun ρ hF h => ?_)
  · skip
    exact v_ret hF (Ha.EvV.fz (ev_loc rfl)) h
  · skip
    refine v_nil ?_
    replace hF : Fr [.v z1, .v z2, .v z3, .v d4] ρ := hF
    try dsimp only
    refine v_seq ?_
    refine v_if hF (ev_tst (ev_bin (by rw [hInX_z]) (ev_loc rfl).p (ev_loc rfl).p)) h (fun ρ hF h => ?_) (fun ρ hF h => ?_)
    · skip
      exact v_ret hF (Ha.EvV.fz ev_cst) h
    · skip
      refine v_nil ?_
      replace hF : Fr [.v z1, .v z2, .v z3, .v d4] ρ := hF
      try dsimp only
      exact v_ret hF (Ha.EvV.fz (ev_sl (ev_loc rfl).p eo_no (eo_some (ev_idxM (ev_loc rfl).p (ev_loc rfl).p)))) h
theorem R_ever_chance_of : ∀ ds r, G_ever_chance_of ds = some r → F_ever_chance_of ds = some r := by
  intro ds r h0
  obtain ⟨z1, z2, z3, rfl, h⟩ := q3_some h0
  clear h0
  refine v_run0_dir rfl ?_
  show V r (Q0 r) (c_ever_chance_of [.val z1, .val z2, .val z3, .no])
  have hF : Fr [.v z1, .v z2, .v z3, .j] ([.val z1, .val z2, .val z3, .no] : Rho) := (fr_v (fr_v (fr_v (fr_n Fr.nil))))
  revert hF
  generalize ([.val z1, .val z2, .val z3, .no] : Rho) = ρ
  intro hF
  refine v_seq ?_
  refine v_if hF (ev_tst (ev_bin (by rw [hEq_z]) (ev_loc rfl).p (Ha.EvV.p ev_cst))) h (fun ρ hF h => ?_) (fun ρ hF h => ?_)
  · skip
    exact v_ret hF (Ha.EvV.fz ev_cst) h
  · skip
    refine v_nil ?_
    replace hF : Fr [.v z1, .v z2, .v z3, .j] ρ := hF
    try dsimp only
    refine v_seq ?_
    refine v_asgV hF (ev_call R_ahead_of (ea_cons (Ha.EvV.fz (ev_loc rfl)) (ea_cons (Ha.EvV.fz (ev_loc rfl)) (ea_cons (Ha.EvV.fz (ev_loc rfl)) ea_nil)))) rfl h (fun d4 ρ hF h => ?_)
    replace hF : Fr [.v z1, .v z2, .v z3, .v d4] ρ := hF
    try dsimp only
    refine v_seq ?_
    refine v_if hF (ev_tst (ev_bin hIsN_z (ev_loc rfl).p (Ha.EvV.p ev_cst))) h (fun ρ hF h => ?_) (fun ρ hF h => ?_)
    · skip
      exact v_ret hF (Ha.EvV.fz ev_cst) h
    · skip
      refine v_nil ?_
      replace hF : Fr [.v z1, .v z2, .v z3, .v d4] ρ := hF
      try dsimp only
      exact v_ret hF (Ha.EvV.fz (ev_tup (ea_cons (Ha.EvV.fz ev_cst) (ea_cons (Ha.EvV.fz (ev_bin hAdd_z (ev_un hLen_z (ev_loc rfl).p).p (Ha.EvV.p ev_cst))) ea_nil)))) h
theorem R_mean_handings : ∀ ds r, G_mean_handings ds = some r → F_mean_handings ds = some r := by
  intro ds r h0
  obtain ⟨z1, rfl, h⟩ := q1_some h0
  clear h0
  refine v_run0_dir rfl ?_
  show V r (Q0 r) (c_mean_handings [.val z1, .no, .no, .no])
  have hF : Fr [.v z1, .j, .j, .j] ([.val z1, .no, .no, .no] : Rho) := (fr_v (fr_n (fr_n (fr_n Fr.nil))))
  revert hF
  generalize ([.val z1, .no, .no, .no] : Rho) = ρ
  intro hF
  refine v_seq ?_
  refine v_exp hF (ev_call R_check_deputies (ea_cons (Ha.EvV.fz (ev_loc rfl)) ea_nil)) h (fun ρ hF h => ?_)
  replace hF : Fr [.v z1, .j, .j, .j] ρ := hF
  try dsimp only
  refine v_seq ?_
  refine v_asgN hF (ev_listR1 (ev_un hLen_z (ev_loc rfl).p)) rfl h (fun l2 ρ hF h => ?_)
  replace hF : Fr [.v z1, .o l2, .j, .j] ρ := hF
  try dsimp only
  replace hF : Fr [.v z1, .e l2, .j, .j] ρ := Fr.weak (Les.cons le_r (Les.cons le_oe (Les.cons le_r (Les.cons le_r Les.nil)))) hF
  exact v_ret hF (Ha.EvV.fz (ev_call R_sum_of (ea_cons (Ha.EvN.fz (ev_compc (v := 2) (w := 3) rfl rfl (by decide) (ei_seq (ev_frz rfl)) (fun v3 => ev_gyes) (fun v3 => (ei_seq (ev_frz rfl))) (fun v3 v4 => ev_gyes) (fun v3 v4 => (Ha.EvV.fz (ev_call R_ever_chance_of (ea_cons (Ha.EvV.fz (ev_loc rfl)) (ea_cons (Ha.EvV.fz (ev_loc rfl)) (ea_cons (Ha.EvV.fz (ev_loc rfl)) ea_nil)))))))) ea_nil))) h
theorem R_random_loads : ∀ ds r, G_random_loads ds = some r → F_random_loads ds = some r := by
  intro ds r h0
  obtain ⟨z1, z2, rfl, h⟩ := q2_some h0
  clear h0
  refine v_run0_dir rfl ?_
  show V r (Q0 r) (c_random_loads [.val z1, .val z2, .no, .no, .no])
  have hF : Fr [.v z1, .v z2, .j, .j, .j] ([.val z1, .val z2, .no, .no, .no] : Rho) := (fr_v (fr_v (fr_n (fr_n (fr_n Fr.nil)))))
  revert hF
  generalize ([.val z1, .val z2, .no, .no, .no] : Rho) = ρ
  intro hF
  refine v_seq ?_
  refine v_exp hF (ev_call R_check_count (ea_cons (Ha.EvV.fz (ev_loc rfl)) (ea_cons (Ha.EvV.fz ev_cst) (ea_cons (Ha.EvV.fz ev_cst) ea_nil)))) h (fun ρ hF h => ?_)
  replace hF : Fr [.v z1, .v z2, .j, .j, .j] ρ := hF
  try dsimp only
  refine v_seq ?_
  refine v_exp hF (ev_call R_check_count (ea_cons (Ha.EvV.fz (ev_loc rfl)) (ea_cons (Ha.EvV.fz ev_cst) (ea_cons (Ha.EvV.fz (ev_loc rfl)) ea_nil)))) h (fun ρ hF h => ?_)
  replace hF : Fr [.v z1, .v z2, .j, .j, .j] ρ := hF
  try dsimp only
  refine v_seq ?_
  refine v_unp2 hF (ev_call R_chance_of_out (ea_cons (Ha.EvV.fz (ev_loc rfl)) (ea_cons (Ha.EvV.fz (ev_loc rfl)) ea_nil))) rfl (fun _ => rfl) h (fun d3 d4 ρ hF h => ?_)
  replace hF : Fr [.v z1, .v z2, .v d3, .v d4, .j] ρ := hF
  try dsimp only
  refine v_seq ?_
  refine v_asgV hF (ev_call R_ratio (ea_cons (Ha.EvV.fz (ev_bin (by rw [z_iMul]) (ev_loc rfl).p (ev_loc rfl).p)) (ea_cons (Ha.EvV.fz (ev_loc rfl)) ea_nil))) rfl h (fun d5 ρ hF h => ?_)
  replace hF : Fr [.v z1, .v z2, .v d3, .v d4, .v d5] ρ := hF
  try dsimp only
  refine v_seq ?_
  refine v_if hF (ev_tst (ev_bin (by rw [hEq_z]) (ev_loc rfl).p (ev_loc rfl).p)) h (fun ρ hF h => ?_) (fun ρ hF h => ?_)
  · skip
    exact v_ret hF (Ha.EvV.fz (ev_tup (ea_cons (Ha.EvV.fz (ev_tup (ea_cons (Ha.EvV.fz ev_cst) (ea_cons (Ha.EvV.fz ev_cst) ea_nil)))) (ea_cons (Ha.EvV.fz (ev_loc rfl)) ea_nil)))) h
  · skip
    refine v_nil ?_
    replace hF : Fr [.v z1, .v z2, .v d3, .v d4, .v d5] ρ := hF
    try dsimp only
    exact v_ret hF (Ha.EvV.fz (ev_tup (ea_cons (Ha.EvV.fz (ev_call R_ratio (ea_cons (Ha.EvV.fz (ev_bin rfl (ev_bin (by rw [z_iMul]) (ev_loc rfl).p (ev_loc rfl).p).p (ev_bin (by rw [z_iMul]) (ev_loc rfl).p (ev_loc rfl).p).p)) (ea_cons (Ha.EvV.fz (ev_bin (by rw [z_iMul]) (ev_loc rfl).p (ev_bin rfl (ev_loc rfl).p (ev_loc rfl).p).p)) ea_nil)))) (ea_cons (Ha.EvV.fz (ev_loc rfl)) ea_nil)))) h
theorem R_mean_chain : ∀ ds r, G_mean_chain ds = some r → F_mean_chain ds = some r := by
  intro ds r h0
  obtain ⟨z1, rfl, h⟩ := q1_some h0
  clear h0
  refine v_run0_dir rfl ?_
  show V r (Q0 r) (c_mean_chain [.val z1, .no, .no])
  have hF : Fr [.v z1, .j, .j] ([.val z1, .no, .no] : Rho) := (fr_v (fr_n (fr_n Fr.nil)))
  revert hF
  generalize ([.val z1, .no, .no] : Rho) = ρ
  intro hF
  refine v_seq ?_
  refine v_exp hF (ev_call R_check_count (ea_cons (Ha.EvV.fz (ev_loc rfl)) (ea_cons (Ha.EvV.fz ev_cst) (ea_cons (Ha.EvV.fz ev_cst) ea_nil)))) h (fun ρ hF h => ?_)
  replace hF : Fr [.v z1, .j, .j] ρ := hF
  try dsimp only
  refine v_seq ?_
  refine v_asgV hF (ev_un rfl (Ha.EvN.p (ev_comp (v := 1) rfl (ei_r2 (ea_cons (Ha.EvV.fz ev_cst) (ea_cons (Ha.EvV.fz (ev_bin hAdd_z (ev_loc rfl).p (Ha.EvV.p ev_cst))) ea_nil))) (fun v2 => ev_gyes) (fun v2 => (Ha.EvV.fz (ev_bin (by rw [z_iMul]) (ev_loc rfl).p (ev_call R_chain_total_of (ea_cons (Ha.EvV.fz (ev_loc rfl)) (ea_cons (Ha.EvV.fz (ev_loc rfl)) ea_nil))).p)))))) rfl h (fun d3 ρ hF h => ?_)
  replace hF : Fr [.v z1, .j, .v d3] ρ := hF
  try dsimp only
  exact v_ret hF (Ha.EvV.fz (ev_call R_ratio (ea_cons (Ha.EvV.fz (ev_loc rfl)) (ea_cons (Ha.EvV.fz (ev_bin (by rw [z_iMul]) (ev_loc rfl).p (ev_call R_naming_count_of (ea_cons (Ha.EvV.fz (ev_loc rfl)) ea_nil)).p)) ea_nil)))) h
theorem R_loads_of : ∀ ds r, G_loads_of ds = some r → F_loads_of ds = some r := by
  intro ds r h0
  obtain ⟨z1, z2, rfl, h⟩ := q2_some h0
  clear h0
  refine v_run0_dir rfl ?_
  show V r (Q0 r) (c_loads_of [.val z1, .val z2, .no, .no])
  have hF : Fr [.v z1, .v z2, .j, .j] ([.val z1, .val z2, .no, .no] : Rho) := (fr_v (fr_v (fr_n (fr_n Fr.nil))))
  revert hF
  generalize ([.val z1, .val z2, .no, .no] : Rho) = ρ
  intro hF
  refine v_seq ?_
  refine v_asgV hF (ev_call R_holders_of (ea_cons (Ha.EvV.fz (ev_loc rfl)) (ea_cons (Ha.EvV.fz (ev_loc rfl)) ea_nil))) rfl h (fun d3 ρ hF h => ?_)
  replace hF : Fr [.v z1, .v z2, .j, .v d3] ρ := hF
  try dsimp only
  refine v_seq ?_
  refine v_asgV hF (ev_tupG (tr1 rfl (fun v4 => ev_gyes) (fun v4 => (Ha.EvV.fz (ev_cnt (ev_loc rfl).p (ev_loc rfl).p)))) (ei_r1 (ea_cons (Ha.EvV.fz (ev_un hLen_z (ev_loc rfl).p)) ea_nil))) rfl h (fun d5 ρ hF h => ?_)
  replace hF : Fr [.v z1, .v z2, .v d5, .v d3] ρ := hF
  try dsimp only
  exact v_ret hF (Ha.EvV.fz (ev_tup (ea_star (Ha.EvV.fz (ev_loc rfl)) (ea_cons (Ha.EvV.fz (ev_cnt (ev_loc rfl).p (Ha.EvV.p ev_cst))) ea_nil)))) h
theorem R_lots_of : ∀ ds r, G_lots_of ds = some r → F_lots_of ds = some r := by
  intro ds r h0
  obtain ⟨z1, z2, rfl, h⟩ := q2_some h0
  clear h0
  refine v_run0_dir rfl ?_
  show V r (Q0 r) (c_lots_of [.val z1, .val z2])
  have hF : Fr [.v z1, .v z2] ([.val z1, .val z2] : Rho) := (fr_v (fr_v Fr.nil))
  revert hF
  generalize ([.val z1, .val z2] : Rho) = ρ
  intro hF
  exact v_ret hF (Ha.EvN.fz (ev_listI (ei_cmbR (ev_loc rfl) (ev_loc rfl)))) h
theorem R_mean_loads : ∀ ds r, G_mean_loads ds = some r → F_mean_loads ds = some r := by
  intro ds r h0
  obtain ⟨z1, z2, rfl, h⟩ := q2_some h0
  clear h0
  refine v_run0_dir rfl ?_
  show V r (Q0 r) (c_mean_loads [.val z1, .val z2, .no, .no])
  have hF : Fr [.v z1, .v z2, .j, .j] ([.val z1, .val z2, .no, .no] : Rho) := (fr_v (fr_v (fr_n (fr_n Fr.nil))))
  revert hF
  generalize ([.val z1, .val z2, .no, .no] : Rho) = ρ
  intro hF
  refine v_seq ?_
  refine v_exp hF (ev_call R_check_deputies (ea_cons (Ha.EvV.fz (ev_loc rfl)) ea_nil)) h (fun ρ hF h => ?_)
  replace hF : Fr [.v z1, .v z2, .j, .j] ρ := hF
  try dsimp only
  refine v_seq ?_
  refine v_exp hF (ev_call R_check_count (ea_cons (Ha.EvV.fz (ev_loc rfl)) (ea_cons (Ha.EvV.fz ev_cst) (ea_cons (Ha.EvV.fz (ev_un hLen_z (ev_loc rfl).p)) ea_nil)))) h (fun ρ hF h => ?_)
  replace hF : Fr [.v z1, .v z2, .j, .j] ρ := hF
  try dsimp only
  refine v_seq ?_
  refine v_asgN hF (ev_comp (v := 2) rfl (ei_seq (Ha.EvV.fz (ev_call R_lots_of (ea_cons (Ha.EvV.fz (ev_un hLen_z (ev_loc rfl).p)) (ea_cons (Ha.EvV.fz (ev_loc rfl)) ea_nil))))) (fun v3 => ev_gyes) (fun v3 => (Ha.EvV.fz (ev_call R_loads_of (ea_cons (Ha.EvV.fz (ev_loc rfl)) (ea_cons (Ha.EvV.fz (ev_loc rfl)) ea_nil)))))) rfl h (fun l4 ρ hF h => ?_)
  replace hF : Fr [.v z1, .v z2, .j, .o l4] ρ := hF
  try dsimp only
  replace hF : Fr [.v z1, .v z2, .j, .e l4] ρ := Fr.weak (Les.cons le_r (Les.cons le_r (Les.cons le_r (Les.cons le_oe Les.nil)))) hF
  exact v_ret hF (Ha.EvV.fz (ev_tupG (tr1 rfl (fun v5 => ev_gyes) (fun v5 => (Ha.EvV.fz (ev_call R_ratio (ea_cons (Ha.EvV.fz (ev_sumG (tr1 rfl (fun v6 => ev_gyes) (fun v6 => (Ha.EvV.fz (ev_bin hIx_z (ev_loc rfl).p (ev_loc rfl).p)))) (ei_seq (ev_frz rfl)))) (ea_cons (Ha.EvV.fz (ev_un hLen_z (ev_e rfl))) ea_nil)))))) (ei_r1 (ea_cons (Ha.EvV.fz (ev_bin hAdd_z (ev_un hLen_z (ev_loc rfl).p).p (Ha.EvV.p ev_cst))) ea_nil)))) h
theorem L_long_rings_of_l0 (z1 : PD) (z2 : PD) (k : List PD → Option PD) {r : PD} {Q : Qs} (hk : ∀ (s4 : List PD) (ρ : Rho), Fr [.v z1, .v z2, .o s4, .j, .j, .j] ρ → k s4 = some r → Q.nx ρ) : ∀ (xs : List PD) (s4 : List PD) (ρ : Rho), Fr [.v z1, .v z2, .o s4, .j, .j, .j] ρ → G_long_rings_of_l0 z1 z2 k xs s4 = some r → V r Q (forL (stNm 3) (cSeq (cAsg 4 (fListR2 (fLoc 1) (fBin hAdd (fLoc 3) (fCst (.int 1)))))
  (cApp 2 (fUn hSum2 (fComp [5] (iSeq (fLoc 4)) (stNm 5) gYes (fBin (hI iMul) (fApp (a2 iPerm) (aCons (fBin (hI iSub) (fLoc 3) (fCst (.int 1))) (aCons (fBin (hI iSub) (fLoc 5) (fCst (.int 1))) aNil))) (fBin hIx (fLoc 2) (fBin (hI iSub) (fLoc 3) (fLoc 5)))))))) xs ρ)
  | [], s4, ρ, hF, h => v_forn (hk s4 ρ hF h)
  | y5 :: xs, s4, ρ, hF, h => by
    replace h : (x1 (xListR2 (some z2) (xBin z_hAdd (some y5) (some (.int 1)))) fun l6 => (x1 (xUn hSum2 (xL (xComp (xI (some (.list l6))) (fun v7 => (some true)) (fun v7 => (xBin (hI mulI) (xApp (a2 iPerm) (xc (xBin (hI iSub) (some y5) (some (.int 1))) (xc (xBin (hI iSub) (some v7) (some (.int 1))) (some [])))) (xBin z_hIx (some (.list s4)) (xBin (hI iSub) (some y5) (some v7)))))))) fun d8 => xapp s4 ((G_long_rings_of_l0 z1 z2 k xs) (appR s4 [d8])))) = some r := h
    refine v_forc hF rfl (fun ρ hF => ?_)
    replace hF : Fr [.v z1, .v z2, .o s4, .v y5, .j, .j] ρ := hF
    try dsimp only
    refine v_seq ?_
    refine v_asgN hF (ev_listR2 (ev_loc rfl) (ev_bin hAdd_z (ev_loc rfl).p (Ha.EvV.p ev_cst))) rfl h (fun l6 ρ hF h => ?_)
    replace hF : Fr [.v z1, .v z2, .o s4, .v y5, .o l6, .j] ρ := hF
    try dsimp only
    replace hF : Fr [.v z1, .v z2, .o s4, .v y5, .e l6, .j] ρ := Fr.weak (Les.cons le_r (Les.cons le_r (Les.cons le_r (Les.cons le_r (Les.cons le_oe (Les.cons le_r Les.nil)))))) hF
    refine v_app hF rfl (Ha.EvV.fz (ev_un rfl (Ha.EvN.p (ev_comp (v := 5) rfl (ei_seq (ev_frz rfl)) (fun v7 => ev_gyes) (fun v7 => (Ha.EvV.fz (ev_bin (by rw [z_iMul]) (ev_app (ea_cons (Ha.EvV.fz (ev_bin rfl (ev_loc rfl).p (Ha.EvV.p ev_cst))) (ea_cons (Ha.EvV.fz (ev_bin rfl (ev_loc rfl).p (Ha.EvV.p ev_cst))) ea_nil))).p (ev_bin hIx_z (ev_own rfl) (ev_bin rfl (ev_loc rfl).p (ev_loc rfl).p).p).p))))))) h (fun d8 ρ hF h => ?_)
    replace hF : Fr [.v z1, .v z2, .o (appR s4 [d8]), .v y5, .e l6, .j] ρ := hF
    exact L_long_rings_of_l0 z1 z2 k hk xs (appR s4 [d8]) _ (Fr.weak (Les.cons le_r (Les.cons le_r (Les.cons le_r (Les.cons le_j (Les.cons le_j (Les.cons le_r Les.nil)))))) hF) h
theorem R_long_rings_of : ∀ ds r, G_long_rings_of ds = some r → F_long_rings_of ds = some r := by
  intro ds r h0
  obtain ⟨z1, z2, rfl, h⟩ := q2_some h0
  clear h0
  refine v_run0_dir rfl ?_
  show V r (Q0 r) (c_long_rings_of [.val z1, .val z2, .no, .no, .no, .no])
  have hF : Fr [.v z1, .v z2, .j, .j, .j, .j] ([.val z1, .val z2, .no, .no, .no, .no] : Rho) := (fr_v (fr_v (fr_n (fr_n (fr_n (fr_n Fr.nil))))))
  revert hF
  generalize ([.val z1, .val z2, .no, .no, .no, .no] : Rho) = ρ
  intro hF
  refine v_seq ?_
  refine v_asgN hF (ev_lst (ea_cons (Ha.EvV.fz ev_cst) ea_nil)) rfl h (fun l3 ρ hF h => ?_)
  replace hF : Fr [.v z1, .v z2, .o l3, .j, .j, .j] ρ := hF
  try dsimp only
  refine v_seq ?_
  refine v_for hF (ei_r2 (ea_cons (Ha.EvV.fz ev_cst) (ea_cons (Ha.EvV.fz (ev_bin hAdd_z (ev_loc rfl).p (Ha.EvV.p ev_cst))) ea_nil))) h (fun l10 ρ hF h => ?_)
  refine L_long_rings_of_l0 z1 z2 _ (fun s9 ρ hF h => ?_) l10 l3 ρ (Fr.weak (Les.cons le_r (Les.cons le_r (Les.cons le_r (Les.cons le_r (Les.cons le_r (Les.cons le_r Les.nil)))))) hF) h
  replace hF : Fr [.v z1, .v z2, .o s9, .j, .j, .j] ρ := hF
  try dsimp only
  replace hF : Fr [.v z1, .v z2, .e s9, .j, .j, .j] ρ := Fr.weak (Les.cons le_r (Les.cons le_r (Les.cons le_oe (Les.cons le_r (Les.cons le_r (Les.cons le_r Les.nil)))))) hF
  exact v_ret hF (ev_frz rfl) h
theorem R_ways_to_rings_of : ∀ ds r, G_ways_to_rings_of ds = some r → F_ways_to_rings_of ds = some r := by
  intro ds r h0
  obtain ⟨z1, z2, rfl, h⟩ := q2_some h0
  clear h0
  refine v_run0_dir rfl ?_
  show V r (Q0 r) (c_ways_to_rings_of [.val z1, .val z2])
  have hF : Fr [.v z1, .v z2] ([.val z1, .val z2] : Rho) := (fr_v (fr_v Fr.nil))
  revert hF
  generalize ([.val z1, .val z2] : Rho) = ρ
  intro hF
  refine v_seq ?_
  refine v_if hF (ev_tst (ev_bin (by rw [hEq_z]) (ev_loc rfl).p (ev_loc rfl).p)) h (fun ρ hF h => ?_) (fun ρ hF h => ?_)
  · skip
    exact v_ret hF (Ha.EvV.fz ev_cst) h
  · skip
    refine v_nil ?_
    replace hF : Fr [.v z1, .v z2] ρ := hF
    try dsimp only
    exact v_ret hF (Ha.EvV.fz (ev_bin (by rw [z_iMul]) (ev_loc rfl).p (ev_call R_power_of (ea_cons (Ha.EvV.fz (ev_loc rfl)) (ea_cons (Ha.EvV.fz (ev_bin rfl (ev_bin rfl (ev_loc rfl).p (ev_loc rfl).p).p (Ha.EvV.p ev_cst))) ea_nil))).p)) h
theorem R_sure_count_of : ∀ ds r, G_sure_count_of ds = some r → F_sure_count_of ds = some r := by
  intro ds r h0
  obtain ⟨z1, z2, rfl, h⟩ := q2_some h0
  clear h0
  refine v_run0_dir rfl ?_
  show V r (Q0 r) (c_sure_count_of [.val z1, .val z2, .no, .no])
  have hF : Fr [.v z1, .v z2, .j, .j] ([.val z1, .val z2, .no, .no] : Rho) := (fr_v (fr_v (fr_n (fr_n Fr.nil))))
  revert hF
  generalize ([.val z1, .val z2, .no, .no] : Rho) = ρ
  intro hF
  refine v_seq ?_
  refine v_asgV hF (ev_call R_long_rings_of (ea_cons (Ha.EvV.fz (ev_loc rfl)) (ea_cons (Ha.EvV.fz (ev_bin hAdd_z (ev_loc rfl).p (Ha.EvV.p ev_cst))) ea_nil))) rfl h (fun d3 ρ hF h => ?_)
  replace hF : Fr [.v z1, .v z2, .v d3, .j] ρ := hF
  try dsimp only
  exact v_ret hF (Ha.EvV.fz (ev_un rfl (Ha.EvN.p (ev_comp (v := 3) rfl (ei_r1 (ea_cons (Ha.EvV.fz (ev_bin hAdd_z (ev_loc rfl).p (Ha.EvV.p ev_cst))) ea_nil)) (fun v4 => ev_gyes) (fun v4 => (Ha.EvV.fz (ev_bin (by rw [z_iMul]) (ev_bin (by rw [z_iMul]) (ev_app (ea_cons (Ha.EvV.fz (ev_loc rfl)) (ea_cons (Ha.EvV.fz (ev_loc rfl)) ea_nil))).p (ev_bin hIx_z (ev_loc rfl).p (ev_loc rfl).p).p).p (ev_call R_ways_to_rings_of (ea_cons (Ha.EvV.fz (ev_loc rfl)) (ea_cons (Ha.EvV.fz (ev_loc rfl)) ea_nil))).p))))))) h
theorem R_sure_count : ∀ ds r, G_sure_count ds = some r → F_sure_count ds = some r := by
  intro ds r h0
  obtain ⟨z1, z2, rfl, h⟩ := q2_some h0
  clear h0
  refine v_run0_dir rfl ?_
  show V r (Q0 r) (c_sure_count [.val z1, .val z2])
  have hF : Fr [.v z1, .v z2] ([.val z1, .val z2] : Rho) := (fr_v (fr_v Fr.nil))
  revert hF
  generalize ([.val z1, .val z2] : Rho) = ρ
  intro hF
  refine v_seq ?_
  refine v_exp hF (ev_call R_check_count (ea_cons (Ha.EvV.fz (ev_loc rfl)) (ea_cons (Ha.EvV.fz ev_cst) (ea_cons (Ha.EvV.fz ev_cst) ea_nil)))) h (fun ρ hF h => ?_)
  replace hF : Fr [.v z1, .v z2] ρ := hF
  try dsimp only
  refine v_seq ?_
  refine v_exp hF (ev_call R_check_count (ea_cons (Ha.EvV.fz (ev_loc rfl)) (ea_cons (Ha.EvV.fz ev_cst) (ea_cons (Ha.EvV.fz (ev_loc rfl)) ea_nil)))) h (fun ρ hF h => ?_)
  replace hF : Fr [.v z1, .v z2] ρ := hF
  try dsimp only
  exact v_ret hF (Ha.EvV.fz (ev_call R_sure_count_of (ea_cons (Ha.EvV.fz (ev_loc rfl)) (ea_cons (Ha.EvV.fz (ev_loc rfl)) ea_nil)))) h
theorem R_are_unlike_holders : ∀ ds r, G_are_unlike_holders ds = some r → F_are_unlike_holders ds = some r := by
  intro ds r h0
  obtain ⟨z1, z2, rfl, h⟩ := q2_some h0
  clear h0
  refine v_run0_dir rfl ?_
  show V r (Q0 r) (c_are_unlike_holders [.val z1, .val z2])
  have hF : Fr [.v z1, .v z2] ([.val z1, .val z2] : Rho) := (fr_v (fr_v Fr.nil))
  revert hF
  generalize ([.val z1, .val z2] : Rho) = ρ
  intro hF
  refine v_seq ?_
  refine v_if hF (ev_gor (ev_gnot (ev_tst (ev_isi isi_tuple (ev_loc rfl).p))) (ev_gnot (ev_tst (ev_allG (tr1 rfl (fun v3 => ev_gyes) (fun v3 => (Ha.EvV.fz (ev_call R_is_holder (ea_cons (Ha.EvV.fz (ev_loc rfl)) (ea_cons (Ha.EvV.fz (ev_loc rfl)) ea_nil)))))) (ei_seq (Ha.EvV.fz (ev_loc rfl))))))) h (fun ρ hF h => ?_) (fun ρ hF h => ?_)
  · skip
    exact v_ret hF (Ha.EvV.fz ev_cst) h
  · skip
    refine v_nil ?_
    replace hF : Fr [.v z1, .v z2] ρ := hF
    try dsimp only
    exact v_ret hF (Ha.EvV.fz (ev_bin (by rw [hEq_z]) (ev_un rfl (ev_loc rfl).p).p (ev_un hLen_z (ev_loc rfl).p).p)) h
theorem R_is_order : ∀ ds r, G_is_order ds = some r → F_is_order ds = some r := by
  intro ds r h0
  obtain ⟨z1, z2, rfl, h⟩ := q2_some h0
  clear h0
  refine v_run0_dir rfl ?_
  show V r (Q0 r) (c_is_order [.val z1, .val z2])
  have hF : Fr [.v z1, .v z2] ([.val z1, .val z2] : Rho) := (fr_v (fr_v Fr.nil))
  revert hF
  generalize ([.val z1, .val z2] : Rho) = ρ
  intro hF
  exact v_ret hF (Ha.EvV.fz (ev_and (ev_call R_are_unlike_holders (ea_cons (Ha.EvV.fz (ev_loc rfl)) (ea_cons (Ha.EvV.fz (ev_loc rfl)) ea_nil))) (ev_bin (by rw [hInX_z]) (Ha.EvV.p ev_cst) (ev_loc rfl).p))) h
theorem R_is_lot : ∀ ds r, G_is_lot ds = some r → F_is_lot ds = some r := by
  intro ds r h0
  obtain ⟨z1, z2, rfl, h⟩ := q2_some h0
  clear h0
  refine v_run0_dir rfl ?_
  show V r (Q0 r) (c_is_lot [.val z1, .val z2])
  have hF : Fr [.v z1, .v z2] ([.val z1, .val z2] : Rho) := (fr_v (fr_v Fr.nil))
  revert hF
  generalize ([.val z1, .val z2] : Rho) = ρ
  intro hF
  exact v_ret hF (Ha.EvV.fz (ev_and (ev_call R_is_order (ea_cons (Ha.EvV.fz (ev_loc rfl)) (ea_cons (Ha.EvV.fz (ev_loc rfl)) ea_nil))) (ev_bin (by rw [hEq_z]) (Ha.EvN.p (ev_unN rfl (ev_loc rfl).p)) (Ha.EvN.p (ev_unN rfl (ev_loc rfl).p))))) h
theorem R_check_lot : ∀ ds r, G_check_lot ds = some r → F_check_lot ds = some r := by
  intro ds r h0
  obtain ⟨z1, z2, rfl, h⟩ := q2_some h0
  clear h0
  refine v_run0_dir rfl ?_
  show V r (Q0 r) (c_check_lot [.val z1, .val z2])
  have hF : Fr [.v z1, .v z2] ([.val z1, .val z2] : Rho) := (fr_v (fr_v Fr.nil))
  revert hF
  generalize ([.val z1, .val z2] : Rho) = ρ
  intro hF
  refine v_if hF (ev_gnot (ev_tst (ev_call R_is_lot (ea_cons (Ha.EvV.fz (ev_loc rfl)) (ea_cons (Ha.EvV.fz (ev_loc rfl)) ea_nil))))) h (fun ρ hF h => ?_) (fun ρ hF h => ?_)
  · skip
    cases h
  · skip
    refine v_nil ?_
    replace hF : Fr [.v z1, .v z2] ρ := hF
    cases h; rfl
theorem R_holders : ∀ ds r, G_holders ds = some r → F_holders ds = some r := by
  intro ds r h0
  obtain ⟨z1, z2, rfl, h⟩ := q2_some h0
  clear h0
  refine v_run0_dir rfl ?_
  show V r (Q0 r) (c_holders [.val z1, .val z2])
  have hF : Fr [.v z1, .v z2] ([.val z1, .val z2] : Rho) := (fr_v (fr_v Fr.nil))
  revert hF
  generalize ([.val z1, .val z2] : Rho) = ρ
  intro hF
  refine v_seq ?_
  refine v_exp hF (ev_call R_check_deputies (ea_cons (Ha.EvV.fz (ev_loc rfl)) ea_nil)) h (fun ρ hF h => ?_)
  replace hF : Fr [.v z1, .v z2] ρ := hF
  try dsimp only
  refine v_seq ?_
  refine v_exp hF (ev_call R_check_lot (ea_cons (Ha.EvV.fz (ev_loc rfl)) (ea_cons (Ha.EvV.fz (ev_un hLen_z (ev_loc rfl).p)) ea_nil))) h (fun ρ hF h => ?_)
  replace hF : Fr [.v z1, .v z2] ρ := hF
  try dsimp only
  exact v_ret hF (Ha.EvV.fz (ev_call R_holders_of (ea_cons (Ha.EvV.fz (ev_loc rfl)) (ea_cons (Ha.EvV.fz (ev_loc rfl)) ea_nil)))) h
def G_law_l0 (z1 : PD) (l2 : List PD) (z3 : PD) (z4 : PD) (z5 : PD) (k : PD → PD → Option PD) (xs : List PD) : PD → PD → Option PD :=
  List.rec (motive := fun _ => PD → PD → Option PD) (fun s8 s9 => k s8 s9) (fun y10 _ ih => fun s8 s9 => (x1 (x1 (xc (some s8) (xc (x1 (xc (xT (xc (some (.int 1)) (xc (xUn z_hLen (some z5)) (some [])))) (xc (x1 (xc (some y10) (some [])) G_mean_handings) (some []))) G__law_by) (some []))) G__law_plus) fun d11 => (x1 (x1 (xc (some s9) (xc (x1 (xc (xT (xc (some (.int 1)) (xc (xUn z_hLen (some z5)) (some [])))) (xc (xBin z_hIx (x1 (xc (some y10) (xc (some z4) (some []))) G_mean_loads) (some z3)) (some []))) G__law_by) (some []))) G__law_plus) fun d12 => (ih d11 d12)))) xs
theorem L_law_l0 (z1 : PD) (l2 : List PD) (z3 : PD) (z4 : PD) (z5 : PD) (k : PD → PD → Option PD) {r : PD} {Q : Qs} (hk : ∀ (s8 : PD) (s9 : PD) (ρ : Rho), Fr [.v z1, .o l2, .v z3, .v z4, .v z5, .v s8, .v s9, .j, .j, .j, .j, .j, .j, .j, .j, .j] ρ → k s8 s9 = some r → Q.nx ρ) : ∀ (xs : List PD) (s8 : PD) (s9 : PD) (ρ : Rho), Fr [.v z1, .o l2, .v z3, .v z4, .v z5, .v s8, .v s9, .j, .j, .j, .j, .j, .j, .j, .j, .j] ρ → G_law_l0 z1 l2 z3 z4 z5 k xs s8 s9 = some r → V r Q (forL (stNm 7) (cSeq (cAsg 5 (fCall0 F__law_plus (aCons (fLoc 5) (aCons (fCall0 F__law_by (aCons (fTup (aCons (fCst (.int 1)) (aCons (fUn hLen (fLoc 4)) aNil))) (aCons (fCall0 F_mean_handings (aCons (fLoc 7) aNil)) aNil))) aNil))))
  (cAsg 6 (fCall0 F__law_plus (aCons (fLoc 6) (aCons (fCall0 F__law_by (aCons (fTup (aCons (fCst (.int 1)) (aCons (fUn hLen (fLoc 4)) aNil))) (aCons (fBin hIx (fCall0 F_mean_loads (aCons (fLoc 7) (aCons (fLoc 3) aNil))) (fLoc 2)) aNil))) aNil))))) xs ρ)
  | [], s8, s9, ρ, hF, h => v_forn (hk s8 s9 ρ hF h)
  | y10 :: xs, s8, s9, ρ, hF, h => by
    replace h : (x1 (x1 (xc (some s8) (xc (x1 (xc (xT (xc (some (.int 1)) (xc (xUn z_hLen (some z5)) (some [])))) (xc (x1 (xc (some y10) (some [])) G_mean_handings) (some []))) G__law_by) (some []))) G__law_plus) fun d11 => (x1 (x1 (xc (some s9) (xc (x1 (xc (xT (xc (some (.int 1)) (xc (xUn z_hLen (some z5)) (some [])))) (xc (xBin z_hIx (x1 (xc (some y10) (xc (some z4) (some []))) G_mean_loads) (some z3)) (some []))) G__law_by) (some []))) G__law_plus) fun d12 => ((G_law_l0 z1 l2 z3 z4 z5 k xs) d11 d12))) = some r := h
    refine v_forc hF rfl (fun ρ hF => ?_)
    replace hF : Fr [.v z1, .o l2, .v z3, .v z4, .v z5, .v s8, .v s9, .v y10, .j, .j, .j, .j, .j, .j, .j, .j] ρ := hF
    try dsimp only
    refine v_seq ?_
    refine v_asgV hF (ev_call R__law_plus (ea_cons (Ha.EvV.fz (ev_loc rfl)) (ea_cons (Ha.EvV.fz (ev_call R__law_by (ea_cons (Ha.EvV.fz (ev_tup (ea_cons (Ha.EvV.fz ev_cst) (ea_cons (Ha.EvV.fz (ev_un hLen_z (ev_loc rfl).p)) ea_nil)))) (ea_cons (Ha.EvV.fz (ev_call R_mean_handings (ea_cons (Ha.EvV.fz (ev_loc rfl)) ea_nil))) ea_nil)))) ea_nil))) rfl h (fun d11 ρ hF h => ?_)
    replace hF : Fr [.v z1, .o l2, .v z3, .v z4, .v z5, .v d11, .v s9, .v y10, .j, .j, .j, .j, .j, .j, .j, .j] ρ := hF
    try dsimp only
    refine v_asgV hF (ev_call R__law_plus (ea_cons (Ha.EvV.fz (ev_loc rfl)) (ea_cons (Ha.EvV.fz (ev_call R__law_by (ea_cons (Ha.EvV.fz (ev_tup (ea_cons (Ha.EvV.fz ev_cst) (ea_cons (Ha.EvV.fz (ev_un hLen_z (ev_loc rfl).p)) ea_nil)))) (ea_cons (Ha.EvV.fz (ev_bin hIx_z (ev_call R_mean_loads (ea_cons (Ha.EvV.fz (ev_loc rfl)) (ea_cons (Ha.EvV.fz (ev_loc rfl)) ea_nil))).p (ev_loc rfl).p)) ea_nil)))) ea_nil))) rfl h (fun d12 ρ hF h => ?_)
    replace hF : Fr [.v z1, .o l2, .v z3, .v z4, .v z5, .v d11, .v d12, .v y10, .j, .j, .j, .j, .j, .j, .j, .j] ρ := hF
    exact L_law_l0 z1 l2 z3 z4 z5 k hk xs d11 d12 _ (Fr.weak (Les.cons le_r (Les.cons le_r (Les.cons le_r (Les.cons le_r (Les.cons le_r (Les.cons le_r (Les.cons le_r (Les.cons le_j (Les.cons le_r (Les.cons le_r (Les.cons le_r (Les.cons le_r (Les.cons le_r (Les.cons le_r (Les.cons le_r (Les.cons le_r Les.nil)))))))))))))))) hF) h
def G_law_l2 (z1 : PD) (l2 : List PD) (z3 : PD) (z4 : PD) (z5 : PD) (s13 : PD) (s14 : PD) (d15 : PD) (s17 : PD) (y18 : PD) (k : PD → Option PD) (xs : List PD) : PD → Option PD :=
  List.rec (motive := fun _ => PD → Option PD) (fun s20 => k s20) (fun y21 _ ih => fun s20 => (x1 (x1 (xc (some s20) (xc (xT (xc (some (.int 1)) (xc (xBin z_hAdd (some y21) (some (.int 1))) (some [])))) (some []))) G__law_plus) fun d22 => (ih d22))) xs
theorem L_law_l2 (z1 : PD) (l2 : List PD) (z3 : PD) (z4 : PD) (z5 : PD) (s13 : PD) (s14 : PD) (d15 : PD) (s17 : PD) (y18 : PD) (k : PD → Option PD) {r : PD} {Q : Qs} (hk : ∀ (s20 : PD) (ρ : Rho), Fr [.v z1, .o l2, .v z3, .v z4, .v z5, .v s13, .v s14, .j, .v d15, .v s17, .v y18, .v s20, .j, .j, .j, .j] ρ → k s20 = some r → Q.nx ρ) : ∀ (xs : List PD) (s20 : PD) (ρ : Rho), Fr [.v z1, .o l2, .v z3, .v z4, .v z5, .v s13, .v s14, .j, .v d15, .v s17, .v y18, .v s20, .j, .j, .j, .j] ρ → G_law_l2 z1 l2 z3 z4 z5 s13 s14 d15 s17 y18 k xs s20 = some r → V r Q (forL (stNm 12) (cAsg 11 (fCall0 F__law_plus (aCons (fLoc 11) (aCons (fTup (aCons (fCst (.int 1)) (aCons (fBin hAdd (fLoc 12) (fCst (.int 1))) aNil))) aNil)))) xs ρ)
  | [], s20, ρ, hF, h => v_forn (hk s20 ρ hF h)
  | y21 :: xs, s20, ρ, hF, h => by
    replace h : (x1 (x1 (xc (some s20) (xc (xT (xc (some (.int 1)) (xc (xBin z_hAdd (some y21) (some (.int 1))) (some [])))) (some []))) G__law_plus) fun d22 => ((G_law_l2 z1 l2 z3 z4 z5 s13 s14 d15 s17 y18 k xs) d22)) = some r := h
    refine v_forc hF rfl (fun ρ hF => ?_)
    replace hF : Fr [.v z1, .o l2, .v z3, .v z4, .v z5, .v s13, .v s14, .j, .v d15, .v s17, .v y18, .v s20, .v y21, .j, .j, .j] ρ := hF
    try dsimp only
    refine v_asgV hF (ev_call R__law_plus (ea_cons (Ha.EvV.fz (ev_loc rfl)) (ea_cons (Ha.EvV.fz (ev_tup (ea_cons (Ha.EvV.fz ev_cst) (ea_cons (Ha.EvV.fz (ev_bin hAdd_z (ev_loc rfl).p (Ha.EvV.p ev_cst))) ea_nil)))) ea_nil))) rfl h (fun d22 ρ hF h => ?_)
    replace hF : Fr [.v z1, .o l2, .v z3, .v z4, .v z5, .v s13, .v s14, .j, .v d15, .v s17, .v y18, .v d22, .v y21, .j, .j, .j] ρ := hF
    exact L_law_l2 z1 l2 z3 z4 z5 s13 s14 d15 s17 y18 k hk xs d22 _ (Fr.weak (Les.cons le_r (Les.cons le_r (Les.cons le_r (Les.cons le_r (Les.cons le_r (Les.cons le_r (Les.cons le_r (Les.cons le_r (Les.cons le_r (Les.cons le_r (Les.cons le_r (Les.cons le_r (Les.cons le_j (Les.cons le_r (Les.cons le_r (Les.cons le_r Les.nil)))))))))))))))) hF) h
def G_law_l1 (z1 : PD) (l2 : List PD) (z3 : PD) (z4 : PD) (z5 : PD) (s13 : PD) (s14 : PD) (d15 : PD) (k : PD → Option PD) (xs : List PD) : PD → Option PD :=
  List.rec (motive := fun _ => PD → Option PD) (fun s17 => k s17) (fun y18 _ ih => fun s17 => (x1 (xT (xc (some (.int 0)) (xc (some (.int 1)) (some [])))) fun d19 => (x1 (xR1 (xc (xBin z_hAdd (some y18) (some (.int 1))) (some []))) fun l25 => G_law_l2 z1 l2 z3 z4 z5 s13 s14 d15 s17 y18 (fun s23 => (x1 (x1 (xc (some s17) (xc (x1 (xc (xBin z_hIx (some d15) (some y18)) (xc (some s23) (some []))) G__law_by) (some []))) G__law_plus) fun d24 => (ih d24))) l25 d19))) xs
theorem L_law_l1 (z1 : PD) (l2 : List PD) (z3 : PD) (z4 : PD) (z5 : PD) (s13 : PD) (s14 : PD) (d15 : PD) (k : PD → Option PD) {r : PD} {Q : Qs} (hk : ∀ (s17 : PD) (ρ : Rho), Fr [.v z1, .o l2, .v z3, .v z4, .v z5, .v s13, .v s14, .j, .v d15, .v s17, .j, .j, .j, .j, .j, .j] ρ → k s17 = some r → Q.nx ρ) : ∀ (xs : List PD) (s17 : PD) (ρ : Rho), Fr [.v z1, .o l2, .v z3, .v z4, .v z5, .v s13, .v s14, .j, .v d15, .v s17, .j, .j, .j, .j, .j, .j] ρ → G_law_l1 z1 l2 z3 z4 z5 s13 s14 d15 k xs s17 = some r → V r Q (forL (stNm 10) (cSeq (cAsg 11 (fTup (aCons (fCst (.int 0)) (aCons (fCst (.int 1)) aNil))))
  (cSeq (cFor (iRng1 (aCons (fBin hAdd (fLoc 10) (fCst (.int 1))) aNil)) (stNm 12) (cAsg 11 (fCall0 F__law_plus (aCons (fLoc 11) (aCons (fTup (aCons (fCst (.int 1)) (aCons (fBin hAdd (fLoc 12) (fCst (.int 1))) aNil))) aNil)))))
  (cAsg 9 (fCall0 F__law_plus (aCons (fLoc 9) (aCons (fCall0 F__law_by (aCons (fBin hIx (fLoc 8) (fLoc 10)) (aCons (fLoc 11) aNil))) aNil)))))) xs ρ)
  | [], s17, ρ, hF, h => v_forn (hk s17 ρ hF h)
  | y18 :: xs, s17, ρ, hF, h => by
    replace h : (x1 (xT (xc (some (.int 0)) (xc (some (.int 1)) (some [])))) fun d19 => (x1 (xR1 (xc (xBin z_hAdd (some y18) (some (.int 1))) (some []))) fun l25 => G_law_l2 z1 l2 z3 z4 z5 s13 s14 d15 s17 y18 (fun s23 => (x1 (x1 (xc (some s17) (xc (x1 (xc (xBin z_hIx (some d15) (some y18)) (xc (some s23) (some []))) G__law_by) (some []))) G__law_plus) fun d24 => ((G_law_l1 z1 l2 z3 z4 z5 s13 s14 d15 k xs) d24))) l25 d19)) = some r := h
    refine v_forc hF rfl (fun ρ hF => ?_)
    replace hF : Fr [.v z1, .o l2, .v z3, .v z4, .v z5, .v s13, .v s14, .j, .v d15, .v s17, .v y18, .j, .j, .j, .j, .j] ρ := hF
    try dsimp only
    refine v_seq ?_
    refine v_asgV hF (ev_tup (ea_cons (Ha.EvV.fz ev_cst) (ea_cons (Ha.EvV.fz ev_cst) ea_nil))) rfl h (fun d19 ρ hF h => ?_)
    replace hF : Fr [.v z1, .o l2, .v z3, .v z4, .v z5, .v s13, .v s14, .j, .v d15, .v s17, .v y18, .v d19, .j, .j, .j, .j] ρ := hF
    try dsimp only
    refine v_seq ?_
    refine v_for hF (ei_r1 (ea_cons (Ha.EvV.fz (ev_bin hAdd_z (ev_loc rfl).p (Ha.EvV.p ev_cst))) ea_nil)) h (fun l25 ρ hF h => ?_)
    refine L_law_l2 z1 l2 z3 z4 z5 s13 s14 d15 s17 y18 _ (fun s23 ρ hF h => ?_) l25 d19 ρ (Fr.weak (Les.cons le_r (Les.cons le_r (Les.cons le_r (Les.cons le_r (Les.cons le_r (Les.cons le_r (Les.cons le_r (Les.cons le_r (Les.cons le_r (Les.cons le_r (Les.cons le_r (Les.cons le_r (Les.cons le_r (Les.cons le_r (Les.cons le_r (Les.cons le_r Les.nil)))))))))))))))) hF) h
    replace hF : Fr [.v z1, .o l2, .v z3, .v z4, .v z5, .v s13, .v s14, .j, .v d15, .v s17, .v y18, .v s23, .j, .j, .j, .j] ρ := hF
    try dsimp only
    refine v_asgV hF (ev_call R__law_plus (ea_cons (Ha.EvV.fz (ev_loc rfl)) (ea_cons (Ha.EvV.fz (ev_call R__law_by (ea_cons (Ha.EvV.fz (ev_bin hIx_z (ev_loc rfl).p (ev_loc rfl).p)) (ea_cons (Ha.EvV.fz (ev_loc rfl)) ea_nil)))) ea_nil))) rfl h (fun d24 ρ hF h => ?_)
    replace hF : Fr [.v z1, .o l2, .v z3, .v z4, .v z5, .v s13, .v s14, .j, .v d15, .v d24, .v y18, .v s23, .j, .j, .j, .j] ρ := hF
    exact L_law_l1 z1 l2 z3 z4 z5 s13 s14 d15 k hk xs d24 _ (Fr.weak (Les.cons le_r (Les.cons le_r (Les.cons le_r (Les.cons le_r (Les.cons le_r (Les.cons le_r (Les.cons le_r (Les.cons le_r (Les.cons le_r (Les.cons le_r (Les.cons le_j (Les.cons le_j (Les.cons le_r (Les.cons le_r (Les.cons le_r (Les.cons le_r Les.nil)))))))))))))))) hF) h
def G_law0 (z1 : PD) (l2 : List PD) (z3 : PD) (z4 : PD) (z5 : PD) (k : PD → PD → PD → PD → PD → PD → List PD → Option PD) : Option PD := (x1 (xT (xc (xT (xc (some (.int 0)) (xc (some (.int 1)) (some [])))) (xc (xT (xc (some (.int 0)) (xc (some (.int 1)) (some [])))) (some [])))) fun d => p2 d fun d6 d7 => (x1 (xI (some z5)) fun l35 => G_law_l0 z1 l2 z3 z4 z5 (fun s13 s14 => (x1 (xrV (x1 (xc (some z3) (some [])) G_length_chances) (xrV (xT (xc (some (.int 0)) (xc (some (.int 1)) (some [])))) (some []))) (kVV fun d15 d16 => (x1 (xR1 (xc (some z3) (some []))) fun l34 => G_law_l1 z1 l2 z3 z4 z5 s13 s14 d15 (fun s26 => (xIf (tOr (bT (xBin (z_hEq true) (some s13) (x1 (xc (xT (xc (some z3) (xc (some (.int 1)) (some [])))) (xc (some s26) (some []))) G__law_by))) (tOr (bT (xBin (z_hEq true) (some s14) (xBin z_hIx (x1 (xc (some z3) (xc (some z4) (some []))) G_random_loads) (some (.int 1))))) (bT (xBin (z_hEq true) (xUn z_hLen (some z5)) (x1 (xc (some z3) (some [])) G_naming_count))))) (some (.bool false)) (x1 (xTupR1 (some z4)) fun d27 => (x1 (xUn z_hLen (xL (xComp (xI (some z5)) (fun v28 => (bT (xBin (z_hEq false) (xBin z_hIx (x1 (xc (some v28) (xc (some d27) (some []))) G_holders) (some (.int 0))) (xUn hNeg (some (.int 1)))))) (fun v28 => (some v28))))) fun d29 => (xIf (bT (xBin (z_hEq true) (x1 (xc (some z3) (xc (some z4) (some []))) G_random_out) (x1 (xc (some d29) (xc (xUn z_hLen (some z5)) (some []))) G__law_ratio))) (some (.bool false)) (x1 (xComp (xI (some z5)) (fun v30 => (some true)) (fun v30 => (x1 (xc (some v30) (some [])) G_surest))) fun l31 => (xIf (bT (xBin (z_hEq true) (xL (xComp (xR1 (xc (xBin z_hAdd (some z3) (some (.int 1))) (some []))) (fun v32 => (bT (xBin (z_hEq true) (x1 (xc (some z3) (xc (some v32) (some []))) G_sure_count) (xUn z_hLen (xL (xComp (xI (some (.list l31))) (fun v33 => (bT (xBin (hB geI) (some v33) (some v32)))) (fun v33 => (some v33)))))))) (fun v32 => (some v32)))) (xL (xS (some []))))) (some (.bool false)) (k (s13) (s14) (d15) (s26) (d27) (d29) (l31))))))))) l34 d16)))) l35 d6 d7))
theorem R_law0 (z1 : PD) (l2 : List PD) (z3 : PD) (z4 : PD) (z5 : PD) (k : PD → PD → PD → PD → PD → PD → List PD → Option PD) {r : PD} (hk : ∀ (z36 : PD) (z37 : PD) (z38 : PD) (z39 : PD) (z40 : PD) (z41 : PD) (l42 : List PD) (ρ : Rho), Fr [.v z1, .o l2, .v z3, .v z4, .v z5, .v z36, .v z37, .j, .v z38, .v z39, .j, .j, .j, .v z40, .v z41, .e l42] ρ → k z36 z37 z38 z39 z40 z41 l42 = some r → V r (Q0 r) (r_13 ρ)) (ρ : Rho) (hF : Fr [.v z1, .o l2, .v z3, .v z4, .v z5, .j, .j, .j, .j, .j, .j, .j, .j, .j, .j, .j] ρ) (h : G_law0 z1 l2 z3 z4 z5 k = some r) : V r (Q0 r) (r_3 ρ) := by
  refine v_seq ?_
  refine v_unp2 hF (ev_tup (ea_cons (Ha.EvV.fz (ev_tup (ea_cons (Ha.EvV.fz ev_cst) (ea_cons (Ha.EvV.fz ev_cst) ea_nil)))) (ea_cons (Ha.EvV.fz (ev_tup (ea_cons (Ha.EvV.fz ev_cst) (ea_cons (Ha.EvV.fz ev_cst) ea_nil)))) ea_nil))) rfl (fun _ => rfl) h (fun d6 d7 ρ hF h => ?_)
  replace hF : Fr [.v z1, .o l2, .v z3, .v z4, .v z5, .v d6, .v d7, .j, .j, .j, .j, .j, .j, .j, .j, .j] ρ := hF
  try dsimp only
  refine v_seq ?_
  refine v_for hF (ei_seq (Ha.EvV.fz (ev_loc rfl))) h (fun l35 ρ hF h => ?_)
  refine L_law_l0 z1 l2 z3 z4 z5 _ (fun s13 s14 ρ hF h => ?_) l35 d6 d7 ρ (Fr.weak (Les.cons le_r (Les.cons le_r (Les.cons le_r (Les.cons le_r (Les.cons le_r (Les.cons le_r (Les.cons le_r (Les.cons le_r (Les.cons le_r (Les.cons le_r (Les.cons le_r (Les.cons le_r (Les.cons le_r (Les.cons le_r (Les.cons le_r (Les.cons le_r Les.nil)))))))))))))))) hF) h
  replace hF : Fr [.v z1, .o l2, .v z3, .v z4, .v z5, .v s13, .v s14, .j, .j, .j, .j, .j, .j, .j, .j, .j] ρ := hF
  try dsimp only
  refine v_seq ?_
  refine v_par hF (er_v (ev_call R_length_chances (ea_cons (Ha.EvV.fz (ev_loc rfl)) ea_nil)) (er_v (ev_tup (ea_cons (Ha.EvV.fz ev_cst) (ea_cons (Ha.EvV.fz ev_cst) ea_nil))) er_nil)) h (fun rs ρ hF h => ?_)
  obtain ⟨d15, d16, rfl, h⟩ := kVV_some h
  refine pt_v hF rfl (fun ρ hF => ?_)
  refine pt_v hF rfl (fun ρ hF => ?_)
  refine pt_z ?_
  replace hF : Fr [.v z1, .o l2, .v z3, .v z4, .v z5, .v s13, .v s14, .j, .v d15, .v d16, .j, .j, .j, .j, .j, .j] ρ := hF
  try dsimp only
  refine v_seq ?_
  refine v_for hF (ei_r1 (ea_cons (Ha.EvV.fz (ev_loc rfl)) ea_nil)) h (fun l34 ρ hF h => ?_)
  refine L_law_l1 z1 l2 z3 z4 z5 s13 s14 d15 _ (fun s26 ρ hF h => ?_) l34 d16 ρ (Fr.weak (Les.cons le_r (Les.cons le_r (Les.cons le_r (Les.cons le_r (Les.cons le_r (Les.cons le_r (Les.cons le_r (Les.cons le_r (Les.cons le_r (Les.cons le_r (Les.cons le_r (Les.cons le_r (Les.cons le_r (Les.cons le_r (Les.cons le_r (Les.cons le_r Les.nil)))))))))))))))) hF) h
  replace hF : Fr [.v z1, .o l2, .v z3, .v z4, .v z5, .v s13, .v s14, .j, .v d15, .v s26, .j, .j, .j, .j, .j, .j] ρ := hF
  try dsimp only
  refine v_seq ?_
  refine v_if hF (ev_gor (ev_tst (ev_bin (by rw [hEq_z]) (ev_loc rfl).p (ev_call R__law_by (ea_cons (Ha.EvV.fz (ev_tup (ea_cons (Ha.EvV.fz (ev_loc rfl)) (ea_cons (Ha.EvV.fz ev_cst) ea_nil)))) (ea_cons (Ha.EvV.fz (ev_loc rfl)) ea_nil))).p)) (ev_gor (ev_tst (ev_bin (by rw [hEq_z]) (ev_loc rfl).p (ev_bin hIx_z (ev_call R_random_loads (ea_cons (Ha.EvV.fz (ev_loc rfl)) (ea_cons (Ha.EvV.fz (ev_loc rfl)) ea_nil))).p (Ha.EvV.p ev_cst)).p)) (ev_tst (ev_bin (by rw [hEq_z]) (ev_un hLen_z (ev_loc rfl).p).p (ev_call R_naming_count (ea_cons (Ha.EvV.fz (ev_loc rfl)) ea_nil)).p)))) h (fun ρ hF h => ?_) (fun ρ hF h => ?_)
  · skip
    exact v_ret hF (Ha.EvV.fz ev_cst) h
  · skip
    refine v_nil ?_
    replace hF : Fr [.v z1, .o l2, .v z3, .v z4, .v z5, .v s13, .v s14, .j, .v d15, .v s26, .j, .j, .j, .j, .j, .j] ρ := hF
    try dsimp only
    refine v_seq ?_
    refine v_asgV hF (ev_tupR1 (ev_loc rfl)) rfl h (fun d27 ρ hF h => ?_)
    replace hF : Fr [.v z1, .o l2, .v z3, .v z4, .v z5, .v s13, .v s14, .j, .v d15, .v s26, .j, .j, .j, .v d27, .j, .j] ρ := hF
    try dsimp only
    refine v_seq ?_
    refine v_asgV hF (ev_un hLen_z (Ha.EvN.p (ev_comp (v := 7) rfl (ei_seq (Ha.EvV.fz (ev_loc rfl))) (fun v28 => (ev_tst (ev_bin (by rw [hEq_z]) (ev_bin hIx_z (ev_call R_holders (ea_cons (Ha.EvV.fz (ev_loc rfl)) (ea_cons (Ha.EvV.fz (ev_loc rfl)) ea_nil))).p (Ha.EvV.p ev_cst)).p (ev_un rfl (Ha.EvV.p ev_cst)).p))) (fun v28 => (Ha.EvV.fz (ev_loc rfl)))))) rfl h (fun d29 ρ hF h => ?_)
    replace hF : Fr [.v z1, .o l2, .v z3, .v z4, .v z5, .v s13, .v s14, .j, .v d15, .v s26, .j, .j, .j, .v d27, .v d29, .j] ρ := hF
    try dsimp only
    refine v_seq ?_
    refine v_if hF (ev_tst (ev_bin (by rw [hEq_z]) (ev_call R_random_out (ea_cons (Ha.EvV.fz (ev_loc rfl)) (ea_cons (Ha.EvV.fz (ev_loc rfl)) ea_nil))).p (ev_call R__law_ratio (ea_cons (Ha.EvV.fz (ev_loc rfl)) (ea_cons (Ha.EvV.fz (ev_un hLen_z (ev_loc rfl).p)) ea_nil))).p)) h (fun ρ hF h => ?_) (fun ρ hF h => ?_)
    · skip
      exact v_ret hF (Ha.EvV.fz ev_cst) h
    · skip
      refine v_nil ?_
      replace hF : Fr [.v z1, .o l2, .v z3, .v z4, .v z5, .v s13, .v s14, .j, .v d15, .v s26, .j, .j, .j, .v d27, .v d29, .j] ρ := hF
      try dsimp only
      refine v_seq ?_
      refine v_asgN hF (ev_comp (v := 7) rfl (ei_seq (Ha.EvV.fz (ev_loc rfl))) (fun v30 => ev_gyes) (fun v30 => (Ha.EvV.fz (ev_call R_surest (ea_cons (Ha.EvV.fz (ev_loc rfl)) ea_nil))))) rfl h (fun l31 ρ hF h => ?_)
      replace hF : Fr [.v z1, .o l2, .v z3, .v z4, .v z5, .v s13, .v s14, .j, .v d15, .v s26, .j, .j, .j, .v d27, .v d29, .o l31] ρ := hF
      try dsimp only
      replace hF : Fr [.v z1, .o l2, .v z3, .v z4, .v z5, .v s13, .v s14, .j, .v d15, .v s26, .j, .j, .j, .v d27, .v d29, .e l31] ρ := Fr.weak (Les.cons le_r (Les.cons le_r (Les.cons le_r (Les.cons le_r (Les.cons le_r (Les.cons le_r (Les.cons le_r (Les.cons le_r (Les.cons le_r (Les.cons le_r (Les.cons le_r (Les.cons le_r (Les.cons le_r (Les.cons le_r (Les.cons le_r (Les.cons le_oe Les.nil)))))))))))))))) hF
      refine v_seq ?_
      refine v_if hF (ev_tst (ev_bin (by rw [hEq_z]) (Ha.EvN.p (ev_comp (v := 10) rfl (ei_r1 (ea_cons (Ha.EvV.fz (ev_bin hAdd_z (ev_loc rfl).p (Ha.EvV.p ev_cst))) ea_nil)) (fun v32 => (ev_tst (ev_bin (by rw [hEq_z]) (ev_call R_sure_count (ea_cons (Ha.EvV.fz (ev_loc rfl)) (ea_cons (Ha.EvV.fz (ev_loc rfl)) ea_nil))).p (ev_un hLen_z (Ha.EvN.p (ev_comp (v := 7) rfl (ei_seq (ev_frz rfl)) (fun v33 => (ev_tst (ev_bin (by rw [z_iGe]) (ev_loc rfl).p (ev_loc rfl).p))) (fun v33 => (Ha.EvV.fz (ev_loc rfl)))))).p))) (fun v32 => (Ha.EvV.fz (ev_loc rfl))))) (Ha.EvN.p (ev_lst ea_nil)))) h (fun ρ hF h => ?_) (fun ρ hF h => ?_)
      · skip
        exact v_ret hF (Ha.EvV.fz ev_cst) h
      · skip
        refine v_nil ?_
        replace hF : Fr [.v z1, .o l2, .v z3, .v z4, .v z5, .v s13, .v s14, .j, .v d15, .v s26, .j, .j, .j, .v d27, .v d29, .e l31] ρ := hF
        try dsimp only
        exact hk (s13) (s14) (d15) (s26) (d27) (d29) (l31) ρ hF h
def G_law (z1 : PD) (l2 : List PD) (z3 : PD) (z4 : PD) (z5 : PD) (z36 : PD) (z37 : PD) (z38 : PD) (z39 : PD) (z40 : PD) (z41 : PD) (l42 : List PD) (z43 : PD) : Option PD := (xAnd (xBin (hB geI) (x1 (xc (some z43) (some [])) G_safe_count) (some (.int 1))) (xNot (x1 (xc (x1 (xc (some z3) (some [])) G_mean_chain) (xc (xT (xc (some (.int 1)) (xc (some (.int 1)) (some [])))) (some []))) G__law_less)))
theorem R_law (z1 : PD) (l2 : List PD) (z3 : PD) (z4 : PD) (z5 : PD) (z36 : PD) (z37 : PD) (z38 : PD) (z39 : PD) (z40 : PD) (z41 : PD) (l42 : List PD) (z43 : PD) (ρ : Rho) (hF : Fr [.v z1, .o l2, .v z3, .v z4, .v z5, .v z36, .v z37, .v z43, .v z38, .v z39, .j, .j, .j, .v z40, .v z41, .e l42] ρ) : RW (G_law z1 l2 z3 z4 z5 z36 z37 z38 z39 z40 z41 l42 z43) (r_14 ρ) := by
  refine ⟨fun r h => ?_⟩
  exact v_ret hF (Ha.EvV.fz (ev_and (ev_bin (by rw [z_iGe]) (ev_call R_safe_count (ea_cons (Ha.EvV.fz (ev_loc rfl)) ea_nil)).p (Ha.EvV.p ev_cst)) (ev_not (ev_call R__law_less (ea_cons (Ha.EvV.fz (ev_call R_mean_chain (ea_cons (Ha.EvV.fz (ev_loc rfl)) ea_nil))) (ea_cons (Ha.EvV.fz (ev_tup (ea_cons (Ha.EvV.fz ev_cst) (ea_cons (Ha.EvV.fz ev_cst) ea_nil)))) ea_nil)))))) h
end
end Pv
set_option Elab.async false
set_option linter.all false
set_option maxRecDepth 1000000
set_option maxHeartbeats 1000000
namespace Pv
open PySem PySem.Spec L2 Gq Dv Lw Fz Sa
open Gd hiding EvA EvF EvN EvO EvP EvR EvT EvV
section
variable {n m : Nat}
def K0 : PD → PD → PD → PD → PD → PD → List PD → Option PD := fun _ _ _ _ _ _ _ => some (.bool true)
theorem law0_11 (z1 : PD) (l2 : List PD) : G_law0 z1 l2 (.int 1) (.int 1) (.list (tps (depsL 1))) K0 = some (.bool true) := by kernel_rfl
theorem law0_21 (z1 : PD) (l2 : List PD) : G_law0 z1 l2 (.int 2) (.int 1) (.list (tps (depsL 2))) K0 = some (.bool true) := by kernel_rfl
theorem law0_22 (z1 : PD) (l2 : List PD) : G_law0 z1 l2 (.int 2) (.int 2) (.list (tps (depsL 2))) K0 = some (.bool true) := by kernel_rfl
theorem law0_31 (z1 : PD) (l2 : List PD) : G_law0 z1 l2 (.int 3) (.int 1) (.list (tps (depsL 3))) K0 = some (.bool true) := by kernel_rfl
theorem law0_32 (z1 : PD) (l2 : List PD) : G_law0 z1 l2 (.int 3) (.int 2) (.list (tps (depsL 3))) K0 = some (.bool true) := by kernel_rfl
theorem law0_33 (z1 : PD) (l2 : List PD) : G_law0 z1 l2 (.int 3) (.int 3) (.list (tps (depsL 3))) K0 = some (.bool true) := by kernel_rfl
theorem law0_ok (h0 : 0 < n) (hn : n ≤ 3) (m0 : 0 < m) (hm : m ≤ n) (z1 : PD) (l2 : List PD) : G_law0 z1 l2 (.int (n : Int)) (.int (m : Int)) (.list (tps (depsL n))) K0 = some (.bool true) :=
  match n, h0, hn, m, m0, hm with
  | 1, _, _, 1, _, _ => law0_11 z1 l2
  | 2, _, _, 1, _, _ => law0_21 z1 l2
  | 2, _, _, 2, _, _ => law0_22 z1 l2
  | 3, _, _, 1, _, _ => law0_31 z1 l2
  | 3, _, _, 2, _, _ => law0_32 z1 l2
  | 3, _, _, 3, _, _ => law0_33 z1 l2
def okB (o : Option PD) : Bool := match o with
  | some (.bool b) => b
  | _ => false
theorem okB_is {o : Option PD} (h : okB o = true) : o = some (.bool true) := by
  unfold okB at h
  split at h
  · subst h; rfl
  · cases h
theorem pick_1 (z1 z4 z5 z36 z37 z38 z39 z40 z41 : PD) (l2 l42 : List PD) : ((tps (depsL 1)).all fun x => okB (G_law z1 l2 (.int 1) z4 z5 z36 z37 z38 z39 z40 z41 l42 x)) = true := by kernel_rfl
theorem pick_2 (z1 z4 z5 z36 z37 z38 z39 z40 z41 : PD) (l2 l42 : List PD) : ((tps (depsL 2)).all fun x => okB (G_law z1 l2 (.int 2) z4 z5 z36 z37 z38 z39 z40 z41 l42 x)) = true := by kernel_rfl
theorem pick_3 (z1 z4 z5 z36 z37 z38 z39 z40 z41 : PD) (l2 l42 : List PD) : ((tps (depsL 3)).all fun x => okB (G_law z1 l2 (.int 3) z4 z5 z36 z37 z38 z39 z40 z41 l42 x)) = true := by kernel_rfl
theorem law_ok (h0 : 0 < n) (hn : n ≤ 3) {x : PD} (hx : x ∈ tps (depsL n)) (z1 z4 z5 z36 z37 z38 z39 z40 z41 : PD) (l2 l42 : List PD) : G_law z1 l2 (.int (n : Int)) z4 z5 z36 z37 z38 z39 z40 z41 l42 x = some (.bool true) := by
  have key : ((tps (depsL n)).all fun x => okB (G_law z1 l2 (.int (n : Int)) z4 z5 z36 z37 z38 z39 z40 z41 l42 x)) = true :=
    match n, h0, hn with
    | 1, _, _ => pick_1 z1 z4 z5 z36 z37 z38 z39 z40 z41 l2 l42
    | 2, _, _ => pick_2 z1 z4 z5 z36 z37 z38 z39 z40 z41 l2 l42
    | 3, _, _ => pick_3 z1 z4 z5 z36 z37 z38 z39 z40 z41 l2 l42
  exact okB_is (List.all_eq_true.mp key x hx)
theorem every_len (h0 : 0 < n) (hn : n ≤ 3) : 0 < (tps (depsL n)).length ∧ (tps (depsL n)).length < 1000 :=
  match n, h0, hn with
  | 1, _, _ => by decide
  | 2, _, _ => by decide
  | 3, _, _ => by decide
open Dr Ha in
theorem main_ (ns : List Int) (h63 : ns.length ≤ 63) (hb : ∀ z ∈ ns, Builtin.Int.intBits z ≤ 1048576) (own : Bool) : ∃ ρ', c_law (st0 own ns :: noS 15) = some (.rt (.bool true) ρ') := by
  refine start (n := 14) (seed := 13880) (by decide) (by decide) [.j, .j, .j, .j, .j, .j, .j, .j, .j, .j, .j, .j, .j, .j] (fr_n (fr_n (fr_n (fr_n (fr_n (fr_n (fr_n (fr_n (fr_n (fr_n (fr_n (fr_n (fr_n (fr_n (.nil))))))))))))))) fun l ρ hl hF => ?_
  refine v_seq ?_
  refine d_asg (i := 0) hF hl (dv_size (m := (3)) pev_cst (by omega) (by omega)) rfl fun d l ρ hd hl hF => ?_
  obtain ⟨n, hn0, hn1, rfl⟩ := hd
  have hn3 : n ≤ 3 := by omega
  refine v_seq ?_
  refine d_par hF hl (dr_v (dv_size (m := (n : Int)) (pev_loc fun _ => rfl) (by omega) (by omega)) (dr_v (dv_pureE (E := (x1 (xc (some (.int (n : Int))) (some [])) Pg.G__law_every)) (d := .list (tps (depsL n))) (fun _ => (Ha.ev_call R__law_every (Ha.ea_cons (Ha.EvV.fz (Ha.ev_loc rfl)) Ha.ea_nil))) (by rw [xc_s, x1_s, law_every_s hn0 hn3])) dr_nil)) fun rs l ρ hd hl hF => ?_
  obtain ⟨_, _, rfl, ⟨m, hm0, hm1, rfl⟩, _, _, rfl, rfl, rfl⟩ := hd
  refine pt_v hF rfl fun ρ hF => pt_v hF rfl fun ρ hF => pt_z ?_
  refine R_law0 _ l _ _ _ K0 (fun z36 z37 z38 z39 z40 z41 l42 ρ hF e => ?_) ρ hF (law0_ok hn0 hn3 hm0 (by omega) _ _)
  refine v_seq ?_
  refine d_asg (i := 5) (R := [.v (.int (n : Int)), .v (.int (m : Int)), .v (.list (tps (depsL n))), .v z36, .v z37, .j, .v z38, .v z39, .j, .j, .j, .v z40, .v z41, .e l42]) hF hl (dv_pickL (xs := tps (depsL n)) (fun _ => Ha.EvV.fz (Ha.ev_loc rfl)) (every_len hn0 hn3).1 (every_len hn0 hn3).2) rfl fun d l ρ hd hl hF => ?_
  exact (R_law _ l _ _ _ _ _ _ _ _ _ _ _ ρ hF).p _ (law_ok hn0 hn3 hd _ _ _ _ _ _ _ _ _ _ _)
end
end Pv
open PySem PySem.W PyProof.Rows
set_option maxHeartbeats 0 in
theorem PySem.Challenge.cw_firstthere_k80_across_all_namings_holds : PySem.Challenge.rw_firstthere_k80_across_all_namings.Holds := by
  w_on; o_law; k_head; (case hw => w_witness2)
  k_fill
  refine Dv.walk_tabs (l := PySem.Challenge.rw_firstthere_k80_across_all_namings) (n := 63) (k := 10) (x := "script") Pv.xs_ rfl rfl (fun w h Y => PySem.W.kIn_of Y) ?nt ?rc ?F (by decide) ⟨rfl, by decide, by decide⟩
  case nt => (intro p; kernel_rfl)
  case rc => kernel_rfl
  case F =>
    intro w mg fa h KX Gn hmg TB
    refine' Pv.all_mk KX Gn hmg TB ?a0 ?l0 ?d0 ?k0 ?a1 ?l1 ?d1 ?k1 ?a2 ?l2 ?d2 ?k2 ?a3 ?l3 ?d3 ?k3 ?a4 ?l4 ?d4 ?k4 ?a5 ?l5 ?d5 ?k5 ?a6 ?l6 ?d6 ?k6 ?a7 ?l7 ?d7 ?k7 ?a8 ?l8 ?d8 ?k8 ?a9 ?l9 ?d9 ?k9 ?a10 ?l10 ?d10 ?k10 ?a11 ?l11 ?d11 ?k11 ?a12 ?l12 ?d12 ?k12 ?q12 ?r12 ?a13 ?l13 ?d13 ?k13 ?a14 ?l14 ?d14 ?k14 ?a15 ?l15 ?d15 ?k15 ?a16 ?l16 ?d16 ?k16 ?q16 ?r16 ?a17 ?l17 ?d17 ?k17 ?a18 ?l18 ?d18 ?k18 ?a19 ?l19 ?d19 ?k19 ?q19 ?r19 ?a20 ?l20 ?d20 ?k20 ?a21 ?l21 ?d21 ?k21 ?a22 ?l22 ?d22 ?k22 ?a23 ?l23 ?d23 ?k23 ?a24 ?l24 ?d24 ?k24 ?a25 ?l25 ?d25 ?k25 ?q25 ?r25 ?a26 ?l26 ?d26 ?k26 ?a27 ?l27 ?d27 ?k27 ?a28 ?l28 ?d28 ?k28 ?a29 ?l29 ?d29 ?k29 ?a30 ?l30 ?d30 ?k30 ?a31 ?l31 ?d31 ?k31 ?a32 ?l32 ?d32 ?k32 ?a33 ?l33 ?d33 ?k33 ?a34 ?l34 ?d34 ?k34 ?q34 ?r34 ?a35 ?l35 ?d35 ?k35 ?a36 ?l36 ?d36 ?k36 ?q36 ?r36 ?a37 ?l37 ?d37 ?k37 ?a38 ?l38 ?d38 ?k38 ?a39 ?l39 ?d39 ?k39 ?a40 ?l40 ?d40 ?k40 ?a41 ?l41 ?d41 ?k41 ?q41 ?r41 ?a42 ?l42 ?d42 ?k42 ?a43 ?l43 ?d43 ?k43 ?a44 ?l44 ?d44 ?k44 ?a45 ?l45 ?d45 ?k45 ?a46 ?l46 ?d46 ?k46 ?e_NONE_AT_ALL ?f_NONE_AT_ALL ?e_SURE ?f_SURE ?e_MOST_COUNTED ?e_MOST_PEOPLE ?e_OFFICE ?e_comb ?e_combinations ?e_gcd ?e_perm ?e_abs ?e_all ?e_bool ?e_int ?e_isinstance ?e_len ?e_list ?e_min ?e_range ?e_set ?e_sorted ?e_sum ?e_tuple Pv.main_
    (case a0 => k_is); (case l0 => k_is); (case d0 => k_is); (case k0 => k_is); (case a1 => k_is); (case l1 => k_is)
    (case d1 => k_is); (case k1 => k_is); (case a2 => k_is); (case l2 => k_is); (case d2 => k_is); (case k2 => k_is)
    (case a3 => k_is); (case l3 => k_is); (case d3 => k_is); (case k3 => k_is); (case a4 => k_is); (case l4 => k_is)
    (case d4 => k_is); (case k4 => k_is); (case a5 => k_is); (case l5 => k_is); (case d5 => k_is); (case k5 => k_is)
    (case a6 => k_is); (case l6 => k_is); (case d6 => k_is); (case k6 => k_is); (case a7 => k_is); (case l7 => k_is)
    (case d7 => k_is); (case k7 => k_is); (case a8 => k_is); (case l8 => k_is); (case d8 => k_is); (case k8 => k_is)
    (case a9 => k_is); (case l9 => k_is); (case d9 => k_is); (case k9 => k_is); (case a10 => k_is); (case l10 => k_is)
    (case d10 => k_is); (case k10 => k_is); (case a11 => k_is); (case l11 => k_is); (case d11 => k_is); (case k11 => k_is)
    (case a12 => k_is); (case l12 => k_is); (case d12 => k_is); (case k12 => k_is); (case q12 => k_is); (case r12 => rfl)
    (case a13 => k_is); (case l13 => k_is); (case d13 => k_is); (case k13 => k_is); (case a14 => k_is); (case l14 => k_is)
    (case d14 => k_is); (case k14 => k_is); (case a15 => k_is); (case l15 => k_is); (case d15 => k_is); (case k15 => k_is)
    (case a16 => k_is); (case l16 => k_is); (case d16 => k_is); (case k16 => k_is); (case q16 => k_is); (case r16 => rfl)
    (case a17 => k_is); (case l17 => k_is); (case d17 => k_is); (case k17 => k_is); (case a18 => k_is); (case l18 => k_is)
    (case d18 => k_is); (case k18 => k_is); (case a19 => k_is); (case l19 => k_is); (case d19 => k_is); (case k19 => k_is)
    (case q19 => k_is); (case r19 => rfl); (case a20 => k_is); (case l20 => k_is); (case d20 => k_is); (case k20 => k_is)
    (case a21 => k_is); (case l21 => k_is); (case d21 => k_is); (case k21 => k_is); (case a22 => k_is); (case l22 => k_is)
    (case d22 => k_is); (case k22 => k_is); (case a23 => k_is); (case l23 => k_is); (case d23 => k_is); (case k23 => k_is)
    (case a24 => k_is); (case l24 => k_is); (case d24 => k_is); (case k24 => k_is); (case a25 => k_is); (case l25 => k_is)
    (case d25 => k_is); (case k25 => k_is); (case q25 => k_is); (case r25 => rfl); (case a26 => k_is); (case l26 => k_is)
    (case d26 => k_is); (case k26 => k_is); (case a27 => k_is); (case l27 => k_is); (case d27 => k_is); (case k27 => k_is)
    (case a28 => k_is); (case l28 => k_is); (case d28 => k_is); (case k28 => k_is); (case a29 => k_is); (case l29 => k_is)
    (case d29 => k_is); (case k29 => k_is); (case a30 => k_is); (case l30 => k_is); (case d30 => k_is); (case k30 => k_is)
    (case a31 => k_is); (case l31 => k_is); (case d31 => k_is); (case k31 => k_is); (case a32 => k_is); (case l32 => k_is)
    (case d32 => k_is); (case k32 => k_is); (case a33 => k_is); (case l33 => k_is); (case d33 => k_is); (case k33 => k_is)
    (case a34 => k_is); (case l34 => k_is); (case d34 => k_is); (case k34 => k_is); (case q34 => k_is); (case r34 => rfl)
    (case a35 => k_is); (case l35 => k_is); (case d35 => k_is); (case k35 => k_is); (case a36 => k_is); (case l36 => k_is)
    (case d36 => k_is); (case k36 => k_is); (case q36 => k_is); (case r36 => rfl); (case a37 => k_is); (case l37 => k_is)
    (case d37 => k_is); (case k37 => k_is); (case a38 => k_is); (case l38 => k_is); (case d38 => k_is); (case k38 => k_is)
    (case a39 => k_is); (case l39 => k_is); (case d39 => k_is); (case k39 => k_is); (case a40 => k_is); (case l40 => k_is)
    (case d40 => k_is); (case k40 => k_is); (case a41 => k_is); (case l41 => k_is); (case d41 => k_is); (case k41 => k_is)
    (case q41 => k_is); (case r41 => rfl); (case a42 => k_is); (case l42 => k_is); (case d42 => k_is); (case k42 => k_is)
    (case a43 => k_is); (case l43 => k_is); (case d43 => k_is); (case k43 => k_is); (case a44 => k_is); (case l44 => k_is)
    (case d44 => k_is); (case k44 => k_is); (case a45 => k_is); (case l45 => k_is); (case d45 => k_is); (case k45 => k_is)
    (case a46 => k_is); (case l46 => k_is); (case d46 => k_is); (case k46 => k_is); (case e_NONE_AT_ALL => k_is); (case f_NONE_AT_ALL => k_is)
    (case e_SURE => k_is); (case f_SURE => k_is); (case e_MOST_COUNTED => k_is); (case e_MOST_PEOPLE => k_is); (case e_OFFICE => k_is); (case e_comb => k_is)
    (case e_combinations => k_is); (case e_gcd => k_is); (case e_perm => k_is); (case e_abs => k_is); (case e_all => k_is); (case e_bool => k_is)
    (case e_int => k_is); (case e_isinstance => k_is); (case e_len => k_is); (case e_list => k_is); (case e_min => k_is); (case e_range => k_is)
    (case e_set => k_is); (case e_sorted => k_is); (case e_sum => k_is); (case e_tuple => k_is)
#print axioms PySem.Challenge.cw_firstthere_k80_across_all_namings_holds
