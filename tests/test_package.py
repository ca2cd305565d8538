"""The form of the package: where the interface stands, and the plain rules of its language."""

import ast
import builtins
import importlib
import inspect
import pathlib
import unittest

PACKAGE = pathlib.Path(__file__).resolve().parent.parent / "firstthere"

INTERFACE = {
    "deputies": {
        "chain": "deputies person", "holder": "deputies gone person", "holders": "deputies gone",
        "held_by": "deputies gone person", "loads": "deputies gone"},
    "rings": {
        "rounds": "deputies", "to_office": "deputies", "chain_lengths": "deputies", "steps_to_end": "deputies",
        "behind": "deputies person"},
    "leaving": {
        "in_time": "deputies order", "handings": "deputies order person", "handing_count": "deputies order",
        "leaving": "deputies gone person"},
    "orders": {
        "orders_with": "deputies told", "order_at": "deputies told number", "number_in": "deputies told order",
        "handing_orders": "deputies"},
    "chances": {
        "ever_chance": "deputies person other", "handing_chances": "deputies person", "mean_handings": "deputies",
        "hold_chance": "deputies many person other", "mean_loads": "deputies many",
        "together_chance": "deputies many one other"},
    "weights": {
        "order_chance": "weights order", "ahead_chance": "weights lot person", "last_chances": "weights",
        "lot_chance": "weights lot", "ever_chance_by": "deputies weights person other",
        "hold_chances_by": "deputies weights many person", "mean_handings_by": "deputies weights"},
    "needed": {
        "least_gone": "deputies person other", "fewest_load": "deputies person many",
        "shows_fewest_load": "deputies person many value", "load_lots": "deputies person many",
        "greatest_load": "deputies many", "shows_greatest_load": "deputies many value"},
    "keeping": {
        "keepers": "deputies", "shows_keepers": "deputies value", "keeper_count": "deputies",
        "apart_chains": "deputies", "shows_apart_chains": "deputies value", "safe_count": "deputies"},
    "costs": {
        "cheap_keepers": "deputies costs", "shows_cheap_keepers": "deputies costs value",
        "keeper_paper": "deputies costs", "shows_keeper_paper": "deputies costs value"},
    "sights": {
        "fitting": "size sights", "fits": "deputies sights", "sure_deputies": "size sights",
        "next_seen": "size sights gone", "first_against": "size sights", "fitting_loads": "size sights"},
    "telling": {
        "tells_all": "size lots", "unlike_ones": "size lots", "shows_unlike_ones": "size lots value",
        "least_tellers": "size", "told_by": "deputies lots"},
    "worths": {
        "worth": "deputies table gone", "mean_worth": "deputies table many", "best_deputies": "size table many",
        "shows_best_deputies": "size table many value", "best_order": "deputies table",
        "shows_best_order": "deputies table value", "order_total": "deputies table order"},
    "changing": {
        "fewest_changes": "deputies gone wanted", "shows_fewest_changes": "deputies gone wanted value"},
    "counts": {
        "naming_count": "size", "office_count": "size many", "ring_count": "size many", "chain_total": "size length",
        "mean_chain": "size"},
    "naming": {
        "reduced": "deputies gone", "renamed": "deputies order", "first_common": "deputies one other",
        "join_lot": "deputies one other", "shows_join_lot": "deputies one other value"},
    "moments": {
        "moment": "deputies order person other", "out_chances": "deputies person", "mean_out": "deputies person",
        "holding_time": "deputies person other", "record_orders": "length places"},
    "hands": {
        "late_end": "deputies person", "early_end": "deputies person", "late_moves": "deputies gone person",
        "wins_duty": "deputies person other"},
    "days": {
        "plan": "deputies days", "day_sums": "deputies days", "fewest_days": "deputies most",
        "day_parting": "deputies most", "fair_lot": "deputies many", "shows_day_parting": "deputies most value",
        "shows_fair_lot": "deputies many value"},
    "limits": {
        "best_naming": "size wishes most", "naming_paper": "size wishes most", "best_change": "deputies table many",
        "shows_best_naming": "size wishes most value", "shows_naming_paper": "size wishes most value",
        "is_settled": "deputies table many"},
    "randoms": {
        "random_out": "size many", "random_hold": "size many", "random_loads": "size many", "length_chances": "size"},
    "meeting": {
        "ever_orders": "deputies person other", "last_orders": "deputies person other",
        "meeting_orders": "deputies one other", "load_chances": "deputies person",
        "office_chances": "deputies many", "place_chances": "weights person", "likely_order": "weights"},
    "nets": {
        "cheap_order": "deputies costs", "best_lot": "deputies table costs", "order_cost": "deputies costs order",
        "shows_cheap_order": "deputies costs value", "shows_best_lot": "deputies table costs value"},
    "closed": {
        "closed_lots": "deputies", "unlike_lots": "one other", "closure": "deputies lot", "beside": "one other"},
    "texts": {
        "write_deputies": "deputies", "read_deputies": "text"},
    "offices": {
        "Office": "deputies"},
    "dates": {
        "order_by": "dates", "duty_days": "deputies dates", "spans": "deputies dates person",
        "busiest_date": "deputies dates", "out_date": "deputies dates person"},
    "rates": {
        "mean_stay": "rates lot", "mean_out_by": "deputies rates person",
        "mean_hold_by": "deputies rates person other", "load_times": "deputies rates"},
    "sure": {
        "least_chain": "deputies", "surest": "deputies", "sure_count": "size many", "fewest_sure": "deputies many",
        "shows_fewest_sure": "deputies many value", "spread": "deputies many",
        "both_out": "deputies many one other"},
    "doubts": {
        "deputy_chances": "size sights person", "holder_chances": "size sights gone person"},
    "lottexts": {
        "write_lots": "lots", "read_lots": "text"},
    "sized": {
        "sized_loads": "deputies sizes gone", "can_leave": "deputies sizes limits gone",
        "shows_largest_leave": "deputies sizes limits value", "largest_leave": "deputies sizes limits",
        "leave_count": "deputies sizes limits"},
    "shapes": {
        "most_handings": "deputies", "shows_most_handings": "deputies value", "alike": "one other",
        "shape": "deputies", "own_names": "deputies", "told_chance": "deputies weights told",
        "handing_chances_by": "deputies weights person"},
}

METHODS = {"leave": "self person", "holders": "self", "gone": "self", "order": "self", "undo": "self"}

LIBRARY = {
    "heapq": {"heappush", "heappop", "heapify", "heapreplace", "heappushpop"},
    "math": {"gcd", "lcm", "isqrt", "comb", "perm", "factorial"},
    "itertools": {
        "product", "combinations", "permutations", "chain", "accumulate", "pairwise", "islice", "zip_longest"},
    "collections": {"defaultdict", "deque"},
}

BUILTINS = set(
    "len range enumerate zip min max sum abs sorted reversed int str bool list tuple dict set isinstance ord repr "
    "any all divmod pow ValueError".split())

NOT_USED = (ast.AsyncFunctionDef, ast.AsyncFor, ast.AsyncWith, ast.Await, ast.Div)


def sources():
    return sorted(PACKAGE.rglob("*.py"))


def own_names(tree):
    """All names that a file gives a meaning to."""
    names = set()
    for node in ast.walk(tree):
        if isinstance(node, (ast.FunctionDef, ast.ClassDef)):
            names.add(node.name)
        elif isinstance(node, ast.arg):
            names.add(node.arg)
        elif isinstance(node, ast.Name) and isinstance(node.ctx, ast.Store):
            names.add(node.id)
        elif isinstance(node, ast.alias):
            names.add(node.name)
    return names


class Interface(unittest.TestCase):
    def test_each_function_stands_in_its_file(self):
        for name, functions in INTERFACE.items():
            module = importlib.import_module("firstthere." + name)
            for function, parameters in functions.items():
                with self.subTest(file=name, function=function):
                    found = getattr(module, function)
                    self.assertEqual(found.__module__, "firstthere." + name)
                    self.assertEqual(list(inspect.signature(found).parameters), parameters.split())


    def test_each_method_stands_in_its_class(self):
        office = importlib.import_module("firstthere.offices").Office
        self.assertTrue(inspect.isclass(office))
        for method, parameters in METHODS.items():
            with self.subTest(method=method):
                found = vars(office)[method]
                self.assertEqual(found.__qualname__, "Office." + method)
                self.assertEqual(list(inspect.signature(found).parameters), parameters.split())


class Language(unittest.TestCase):
    def test_files(self):
        for path in PACKAGE.rglob("*"):
            if "__pycache__" not in path.parts:
                self.assertTrue(path.suffix == ".py" or path.is_dir(), path)

    def test_sizes_and_characters(self):
        for path in sources():
            text = path.read_bytes().decode("ascii")
            lines = text.split("\n")
            with self.subTest(file=path.name):
                self.assertLessEqual(len(lines), 400)
                self.assertLessEqual(max(map(len, lines)), 120)
                self.assertTrue(all(sign == "\n" or " " <= sign <= "~" for sign in text))

    def test_sizes_of_functions(self):
        for path in sources():
            for node in ast.walk(ast.parse(path.read_text())):
                if isinstance(node, ast.FunctionDef):
                    with self.subTest(file=path.name, function=node.name):
                        self.assertLessEqual(node.end_lineno - node.lineno + 1, 40)

    def test_imports(self):
        for path in sources():
            for node in ast.walk(ast.parse(path.read_text())):
                with self.subTest(file=path.name):
                    self.assertNotIsInstance(node, ast.Import)
                if isinstance(node, ast.ImportFrom):
                    names = {each.name for each in node.names}
                    with self.subTest(file=path.name, module=node.module):
                        self.assertFalse([each for each in node.names if each.asname])
                        if node.module in LIBRARY:
                            self.assertLessEqual(names, LIBRARY[node.module])
                        else:
                            home = PACKAGE.parent / (node.module.replace(".", "/") + ".py")
                            self.assertLessEqual(names, own_names(ast.parse(home.read_text())))

    def test_all_imports_are_used(self):
        for path in sources():
            tree = ast.parse(path.read_text())
            imported = {each.name for node in ast.walk(tree) if isinstance(node, ast.ImportFrom) for each in node.names}
            with self.subTest(file=path.name):
                self.assertFalse(imported - {node.id for node in ast.walk(tree) if isinstance(node, ast.Name)})

    def test_names(self):
        for path in sources():
            tree = ast.parse(path.read_text())
            own = own_names(tree)
            with self.subTest(file=path.name):
                # `_` is a builtin only where an example has been shown.
                self.assertFalse((own - {"_"}) & set(dir(builtins)))
            for node in ast.walk(tree):
                if isinstance(node, ast.Name) and isinstance(node.ctx, ast.Load):
                    with self.subTest(file=path.name, name=node.id):
                        self.assertIn(node.id, own | BUILTINS)

    def test_statements(self):
        for path in sources():
            for node in ast.walk(ast.parse(path.read_text())):
                with self.subTest(file=path.name, line=getattr(node, "lineno", None)):
                    self.assertNotIsInstance(node, NOT_USED)
                    self.assertFalse(isinstance(node, ast.Constant) and isinstance(node.value, float))


if __name__ == "__main__":
    unittest.main()
