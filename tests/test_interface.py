"""[25]: names, arguments, and the file in which each name is defined."""

import ast
import inspect
import unittest
from importlib import import_module
from pathlib import Path

PACKAGE = Path(__file__).resolve().parent.parent / "nearwish"

FUNCTIONS = {
    "rings": {
        "right": ["wish", "word", "answer"],
        "wrong_places": ["wish", "word", "answer"],
        "first_answer": ["wish", "word"],
        "answers_many": ["wish", "word"],
        "answer_at": ["wish", "word", "index"],
        "answer_index": ["wish", "word", "answer"],
        "answers_modulo": ["wish", "word", "times", "modulus"],
    },
    "tables": {
        "table": ["wish", "word"],
        "tables": ["wish"],
        "behind": ["wish", "table", "word"],
        "ahead": ["wish", "word", "table"],
        "across": ["wish", "one", "letter", "other"],
        "start": ["wish"],
        "longs": ["wish"],
        "word_with": ["wish", "table", "least"],
    },
    "lengths": {
        "unanswered": ["wish", "least"],
        "lengths": ["wish", "word"],
        "rings_modulo": ["wish", "houses", "modulus"],
    },
    "books": {
        "greatest": ["wish", "table"],
        "near": ["wish"],
        "book_fault": ["wish", "thing"],
        "tree_fault": ["wish", "thing"],
    },
    "runs": {
        "shorts": ["wish"],
        "run_cells": ["wish", "word"],
        "ending": ["wish", "word"],
        "beginning": ["wish", "word"],
        "nameless": ["wish"],
        "nameless_book_fault": ["wish", "thing"],
        "nameless_tree_fault": ["wish", "thing"],
    },
    "levels": {
        "level": ["wish"],
        "least_said": ["wish", "kind"],
    },
    "named": {
        "halvings": ["number"],
    },
    "strangers": {
        "break_named": ["wish", "look", "tell"],
        "break_nameless": ["wish", "look", "tell"],
        "break_called": ["wish", "look", "tell"],
    },
    "looks": {
        "look_table": ["wish", "look"],
        "look_fault": ["wish", "look", "thing"],
    },
    "rising": {
        "rising": ["wish", "look"],
        "rising_program": ["wish", "look", "bound"],
        "rising_fault": ["wish", "look", "bound", "thing"],
        "break_rising": ["wish", "look", "tell"],
    },
    "together": {
        "both": ["one", "other"],
        "one_of": ["one", "other"],
        "turned": ["wish"],
        "seen": ["wish", "given", "old"],
        "struck": ["wish", "letters"],
    },
    "texts": {
        "wish_text": ["wish"],
        "read_wish": ["text"],
    },
}

CLASSES = {
    "wishes": {
        "Wish": {"__init__": ["self", "given", "said", "pairs"], "given": ["self"], "said": ["self"],
                 "cells": ["self"], "pairs": ["self"], "__eq__": ["self", "other"]},
    },
    "named": {
        "NamedProgram": {"__init__": ["self", "wish", "bound"], "look": ["self"], "says": ["self", "word", "names"]},
    },
    "unnamed": {
        "NamelessProgram": {"__init__": ["self", "wish"], "look": ["self"], "says": ["self", "word"]},
    },
    "called": {
        "Called": {"__init__": ["self", "wish", "word"], "call": ["self", "place"], "said": ["self"],
                   "given": ["self"], "reach": ["self"]},
    },
    "live": {
        "LiveRing": {"__init__": ["self", "wish", "word"], "put": ["self", "place", "letter"],
                     "change": ["self", "place", "letter"], "strike": ["self", "place"], "given": ["self"],
                     "said": ["self"], "reach": ["self"]},
    },
}

FIELDS = {"NoWish": ["self", "part"], "TooMany": ["self", "most"]}

ERRORS = ["NearError", "NoWord", "NoAnswer", "NoIndex", "NotRight", "NoNumber", "NoTable", "NoLetter", "NoShort",
          "NoBound", "NotNear", "NoNames", "NoPlace", "NoHouse", "NoSaid", "NoLook", "IsNear", "NoGiven", "NoLetters",
          "NoLevel", "NoText", "NoWish", "TooMany"]


def defined(module, kind):
    """What is defined (`def`, `class`) at the top of the file of this module."""
    tree = ast.parse((PACKAGE / (module + ".py")).read_text(encoding="utf-8"))
    return {node.name: node for node in tree.body if isinstance(node, kind)}


class Interface(unittest.TestCase):

    def test_functions(self):
        for module, functions in FUNCTIONS.items():
            there = defined(module, ast.FunctionDef)
            for name, arguments in functions.items():
                self.assertIn(name, there)
                found = getattr(import_module("nearwish." + module), name)
                self.assertEqual(list(inspect.signature(found).parameters), arguments, name)

    def test_classes(self):
        for module, classes in CLASSES.items():
            there = defined(module, ast.ClassDef)
            for name, methods in classes.items():
                self.assertIn(name, there)
                found = getattr(import_module("nearwish." + module), name)
                for method, arguments in methods.items():
                    self.assertIn(method, vars(found), (name, method))
                    self.assertEqual(list(inspect.signature(vars(found)[method]).parameters), arguments)

    def test_errors(self):
        there = defined("errors", ast.ClassDef)
        self.assertEqual(sorted(there), sorted(ERRORS))
        for name, arguments in FIELDS.items():
            found = getattr(import_module("nearwish.errors"), name)
            self.assertEqual(list(inspect.signature(vars(found)["__init__"]).parameters), arguments)


if __name__ == "__main__":
    unittest.main()
