"""The section "The interface", [20] and [4]: all names, where they are defined, and the arguments that they take."""

import importlib
import inspect
import unittest

from landedback.errors import BackError

FUNCTIONS = {
    "kinds": {"is_integer": "(thing)", "is_name": "(thing)", "is_number": "(many, thing)"},
    "statements": {"is_statement": "(thing)", "bodies": "(statement)", "read": "(statement)", "named": "(statement)",
                   "cells_in": "(statement)", "made": "(statement)"},
    "places": {"all_places": "(program)", "ways": "(program, place)", "statement_at": "(program, place)", "after": "(program, place)",
               "entered": "(program, place, b)"},
    "placings": {"placed": "(program, choices, placing)"},
    "runs": {"played": "(program, run)", "faults_of": "(program, run)", "plainly": "(program, run)", "walk": "(program, run)",
             "is_run": "(program, thing)"},
    "rows": {"begin_entry": "(program, *, nothing=False)", "begin_row": "(program, function, entry)"},
    "steps": {"followers": "(program, row, *, plain=False)", "faulty": "(program, row, *, plain=False)", "leaving": "(program, row)",
              "behind": "(program, row, outcome, *, plain=False)", "lost_behind": "(program, row, outcome, *, plain=False)",
              "ending": "(program, row)", "passing": "(program, row, outcome)", "called": "(program, row)"},
    "followed": {"rows_of": "(program, run, thing)", "row_of": "(program, run, thing)"},
    "closing": {"is_closed": "(program, rows, outcomes, *, plain=False, nothing=False)"},
    "faultruns": {"is_safe": "(program, *, most=1000)", "fewest": "(program, *, most=1000, plain=False)",
                  "fault_run": "(program, *, most=1000, plain=False)", "is_fault_run": "(program, thing)"},
    "told": {"falls": "(program, *, most=1000)", "may_tell": "(program, place, cell, *, most=1000)",
             "may_hold": "(program, place, name, *, most=1000)"},
    "plainruns": dict.fromkeys(("got_since", "changed", "shared", "empty_uses"), "(program, *, most=1000)"),
    "steady": {"unsteady": "(program, *, most=1000)", "is_steady": "(program, *, most=1000)", "must_keep": "(program, *, most=1000)",
               "safe_with": "(program, names, *, most=1000)"},
    "repairs": {"repaired": "(program, repair)", "open_items": "(program, *, most=1000)"},
    "least": {"least": "(program, *, most=1000)", "cheapest": "(program, prices, *, most=1000)", "idle": "(program, *, most=1000)"},
    "papers": {"paper": "(program, *, most=1000)", "is_paper": "(program, goods, bads, *, most=1000)"},
    "tries": {"is_tried": "(thing)"},
    "schemes": {"scheme": "(tried, many)", "place_in": "(tried, many, place)", "led": "(tried, many, run)"},
    "pushed": {"pushed_raises": "(tried, many)", "is_right": "(tried, many)", "wrong_raise": "(tried, many)", "most_open": "(tried)"},
    "notation": {"show_statement": "(statement)", "show_program": "(program)", "show_run": "(run)", "show_deed": "(deed)",
                 "show_log": "(book)", "read_statement": "(text)", "read_program": "(text)", "read_run": "(text)",
                 "read_deed": "(text)", "read_log": "(program, text)"},
}

CLASSES = {
    ("programs", "Program"): ("(functions, *, kept=(), shut=())", "__eq__ functions kept shut cells reached parameters names kept_names "
                              "loose_names calls result with_kept with_shut"),
    ("machine", "Machine"): ("(program)", "__eq__ __len__ __getitem__ step back here is_over fallen wanted calls things faults run cells armed "
                             "trial copied"),
    ("placings", "Placing"): ("(table)", "__call__ nothing everything"),
    ("tables", "Table"): ("(program, *, most=1000, plain=False, nothing=False)",
                          "__len__ __contains__ rows rows_at entries outcomes faults cost outcome_cost entry_cost"),
    ("repairs", "Repair"): ("(kept=(), shut=())", "__or__ __and__ __sub__ __eq__ __len__ __contains__ __bool__ kept shut within"),
    ("tries", "Tried"): ("(functions)", "__eq__ functions places statement parameters names result"),
    ("tries", "Trying"): ("(tried)", "__len__ __getitem__ step wanted calls things faults run opened here is_over fallen"),
    ("book", "Book"): ("(program)", "__eq__ __len__ do back again program log past copied"),
    ("desk", "Desk"): ("(program)", "execute"),
}

METHODS = {"step": "(self, data)", "trial": "(self, act)", "with_kept": "(self, kept)", "with_shut": "(self, shut)",
           "rows_at": "(self, function, address)", "outcomes": "(self, function, entry)", "cost": "(self, row)",
           "outcome_cost": "(self, function, entry, outcome)", "entry_cost": "(self, function, entry)", "within": "(self, other)",
           "statement": "(self, place)", "do": "(self, deed)", "past": "(self, many)", "execute": "(self, line)"}

ERRORS = {"Wrong": "place", "BadStatement": "function address", "BadCells": "many", "BadKept": "function name", "BadShut": "function address",
          "Unknown": "function", "NoName": "name", "Over": "", "Unfit": "", "Nothing": "", "Broken": "at", "BadPlacing": "at", "TooMany": "limit",
          "Faulty": "word function address", "Unsteady": "why", "NoDeed": "", "Full": "limit", "Refused": "deed why", "NoEntry": "many",
          "NoText": "", "NoCommand": ""}


def of(module, name):
    return getattr(importlib.import_module("landedback." + module), name)


class Interface(unittest.TestCase):

    def test_functions(self):
        for module, functions in FUNCTIONS.items():
            for name, signature in functions.items():
                function = of(module, name)
                self.assertTrue(inspect.isfunction(function), name)
                self.assertEqual(function.__module__, "landedback." + module, name)
                self.assertEqual(str(inspect.signature(function)), signature, name)

    def test_classes(self):
        for (module, name), (signature, methods) in CLASSES.items():
            one = of(module, name)
            self.assertEqual(one.__module__, "landedback." + module)
            self.assertEqual(str(inspect.signature(one)), signature, name)
            for method in methods.split():
                self.assertIn(method, vars(one), name)
                if method in METHODS:
                    self.assertEqual(str(inspect.signature(getattr(one, method))), METHODS[method], (name, method))

    def test_properties_and_static_methods(self):
        for name in ("Machine", "Trying"):
            one = of("machine" if name == "Machine" else "tries", name)
            self.assertIsInstance(vars(one)["fallen"], property)
        for name in ("nothing", "everything"):
            self.assertIsInstance(vars(of("placings", "Placing"))[name], staticmethod)

    def test_errors(self):
        for name, fields in ERRORS.items():
            error = of("errors", name)
            self.assertEqual(error.__bases__, (BackError,))
            values = [object() for _ in fields.split()]
            self.assertEqual(vars(error(*values)), dict(zip(fields.split(), values)))
        self.assertEqual(BackError.__bases__, (ValueError,))


if __name__ == "__main__":
    unittest.main()
