"""Firstthere: whose duty is whose, as the people of an office leave one after another."""
