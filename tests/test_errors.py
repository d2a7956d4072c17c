"""[5] and the heading soundlooks/errors.py: the classes of errors."""

import inspect
import unittest

from soundlooks import errors

KEPT = {
    "InvalidText": ("line", "column"),
    "InvalidProgram": ("place",),
    "NotGoing": (),
    "NotClosed": (),
}
WITH_GIVEN = (
    "InvalidIndex InvalidPlace InvalidNumber InvalidState InvalidStretch InvalidRest InvalidWidth InvalidGuard "
    "InvalidSize InvalidSlot InvalidDifferences InvalidEquations InvalidSight InvalidLook InvalidExpression "
    "InvalidStep InvalidFault"
)
WITH_INDEX = (
    "InvalidInputs InvalidOrder InvalidTable InvalidMarks InvalidSlots InvalidValues InvalidRow InvalidRows"
)
for word in WITH_GIVEN.split():
    KEPT[word] = ("given",)
for word in WITH_INDEX.split():
    KEPT[word] = ("index",)

WHATEVER = (None, 0, True, -1, 10 ** 400, "", "text", (), ("a", (1, None)), [1], {"a": 1}, b"x", object(), ValueError)


class Classes(unittest.TestCase):
    def test_all_classes_are_there_and_no_others(self):
        found = [name for name, _ in inspect.getmembers(errors, inspect.isclass)]
        self.assertEqual(sorted(found), sorted(list(KEPT) + ["LookError"]))

    def test_base(self):
        self.assertEqual(errors.LookError.__mro__, (errors.LookError,) + ValueError.__mro__)
        self.assertEqual(vars(errors.LookError()), {})

    def test_each_stands_under_the_base_alone(self):
        for name in KEPT:
            made = getattr(errors, name)
            self.assertEqual(made.__mro__, (made,) + errors.LookError.__mro__, name)
            self.assertEqual(made.__mro__[1:-2], (errors.LookError, ValueError, Exception), name)

    def test_by_position(self):
        for name, kept in KEPT.items():
            for value in WHATEVER:
                told = [(value, at) for at, _ in enumerate(kept)]
                made = getattr(errors, name)(*told)
                self.assertEqual(vars(made), dict(zip(kept, told)), name)

    def test_by_name(self):
        for name, kept in KEPT.items():
            for value in WHATEVER:
                made = getattr(errors, name)(**{word: value for word in reversed(kept)})
                self.assertEqual(sorted(vars(made)), sorted(kept), name)
                for word in kept:
                    self.assertIs(getattr(made, word), value, name)

    def test_what_is_kept_is_the_very_value(self):
        for value in WHATEVER:
            made = errors.InvalidText(value, [value])
            self.assertIs(made.line, value)
            self.assertEqual(made.column, [value])

    def test_raised_and_caught(self):
        for name, kept in KEPT.items():
            for caught in (errors.LookError, ValueError, Exception):
                with self.assertRaises(caught):
                    raise getattr(errors, name)(*kept)

    def test_none_is_made_without_what_it_keeps(self):
        for name, kept in KEPT.items():
            if kept != ():
                with self.assertRaises(TypeError):
                    getattr(errors, name)()
                with self.assertRaises(TypeError):
                    getattr(errors, name)(*kept, 1)


if __name__ == "__main__":
    unittest.main()
