"""The interface: every name that the document lists is there, with its arguments."""

import importlib
import inspect
import unittest

# The modules, the functions that the document lists for them, and how many arguments each takes.
FUNCTIONS = {
    "rows": {"is_row": 1, "backward": 1, "upside": 1, "aside": 1, "shape_at": 2, "put_in": 3, "taken_out": 2},
    "standing": {"stands": 2},
    "stretches": {"whole_stretches": 1, "is_unbroken": 1},
    "trees": {"is_tree": 1, "row_of": 1, "tree_of": 1, "shapes_in": 1},
    "unbroken": {"unbroken_rows": 1, "unbroken_in": 1, "grown": 1},
    "shelves": {"is_shelf": 1, "shelf_of": 1, "shelf_backward": 1, "shelf_upside": 1, "shelf_aside": 1},
    "classes": {"is_of": 2, "said": 2},
    "barred": {"least_barred": 1, "first_barred": 2},
    "counts": {"profile": 1, "counts_by": 2, "counts": 2, "tops": 2},
    "numbering": {"row_at": 3, "number_of": 2},
    "growing": {"openings": 2, "heads": 2, "all_rows": 2},
    "meets": {"met": 2, "joined": 2, "least_between": 2, "chain": 2, "just_above": 1, "just_below": 1},
    "looker": {"holds": 1},
    "papers": {"paper_of": 2},
    "texts": {"show_row": 1, "show_tree": 1, "show_shelf": 1, "read_row": 1, "read_tree": 1, "read_shelf": 1},
}


class InterfaceTest(unittest.TestCase):

    def test_functions(self):
        for home, functions in FUNCTIONS.items():
            module = importlib.import_module("knotlessrows." + home)
            for name, many in functions.items():
                function = getattr(module, name)
                self.assertEqual(function.__module__, module.__name__)
                self.assertEqual(len(inspect.signature(function).parameters), many, name)

    def test_the_desk_has_its_own_say(self):
        desk = importlib.import_module("knotlessrows.desk")
        self.assertIn("say", vars(desk.Desk))
        self.assertEqual(list(inspect.signature(desk.Desk).parameters), [])
        self.assertEqual(len(inspect.signature(desk.Desk().say).parameters), 1)


if __name__ == "__main__":
    unittest.main()
