"""The interface: everything is there under its name, with its arguments."""

import importlib
import inspect
import unittest

from rollcode import errors

FUNCTIONS = {
    "tables": {
        "is_table": "thing", "is_key": "thing", "back_table": "table", "coded": "table key digits",
        "decoded": "table key digits"},
    "presses": {
        "key_of": "table key name", "press_of": "table key name age count deed", "read_press": "table key press"},
    "windows": {"word_of": "count last near far"},
    "needing": {"needs": "door name age count"},
    "hearing": {
        "heard": "door row hearing", "may_open": "door row k late", "comes_to": "door row late", "sure": "door row",
        "least_lost": "door row k"},
    "sharing": {
        "opens_at": "door name age", "telling": "one other", "agree": "one other", "shows_telling": "one other row",
        "brought": "one other"},
    "logs": {"replayed": "table keys near far most log", "short_log": "door", "let_in": "table keys log"},
    "sheet": {"read_sheet": "text"},
    "run": {"run": "text"},
}

CLASSES = {
    ("buttons", "Button"): {
        "__init__": "name table key age step", "press_once": "deed", "cell_out": "", "cell_torn": "", "turn_key": "key",
        "name_told": "", "age_now": "", "count_now": "", "cells_now": ""},
    ("doors", "Door"): {
        "__init__": "table keys near far most", "learn": "one other", "forget": "name", "turn_key": "key",
        "close_below": "age", "hear": "thing", "known_now": "", "keys_now": "", "closed_now": "", "bounds_told": "",
        "table_told": "", "twin_door": "", "log_now": ""},
    ("house", "House"): {
        "__init__": "table key", "add_door": "name near far most", "add_button": "name step", "teach": "door button",
        "press_button": "button deed doors", "play_kept": "number door", "lose_cell": "button", "tear_cell": "button",
        "turn_house": "key", "turn_button": "button", "close_ages": "age", "forget_at": "door button",
        "door_now": "door", "button_now": "button", "kept_now": "", "opened_by": "door", "apart_now": "",
        "unheard": "door button"},
}


def names_of(thing):
    """The names of what a function or method is handed, all without a default."""
    parameters = inspect.signature(thing).parameters.values()
    assert all(parameter.default is inspect.Parameter.empty for parameter in parameters)
    return [parameter.name for parameter in parameters]


class Interface(unittest.TestCase):
    def test_functions(self):
        for module, functions in FUNCTIONS.items():
            held = importlib.import_module("rollcode." + module)
            for name, arguments in functions.items():
                self.assertEqual(names_of(getattr(held, name)), arguments.split(), name)

    def test_classes(self):
        for (module, name), methods in CLASSES.items():
            made = getattr(importlib.import_module("rollcode." + module), name)
            for method, arguments in methods.items():
                self.assertEqual(names_of(getattr(made, method)), ["self"] + arguments.split(), method)

    def test_refusals(self):
        names = ("Worn", "Known", "Full", "Unknown", "TooMany", "BadPress", "BadLog", "BadRow")
        for name in names:
            self.assertEqual(getattr(errors, name).__bases__, (errors.CodeError,))
        self.assertEqual(errors.CodeError.__bases__, (ValueError,))


if __name__ == "__main__":
    unittest.main()
