"""[3]: the refusals, their one base and their fields."""

import unittest

from twigmap import errors

OF_NOTHING = ("NoKey", "NoLeaf", "NoStem")
FIELDS = {
    "NoText": "at",
    "NoTwig": "number",
    "NotHeld": "number",
    "Shared": "number",
    "NoPlace": "at",
    "NotRising": "at",
    "Overlap": "key",
    "Stale": "key",
    "NoName": "name",
    "Taken": "name",
    "NoVersion": "number",
    "NoRow": "at",
}
ALL = [getattr(errors, name) for name in OF_NOTHING + tuple(FIELDS)]


class RefusalsTest(unittest.TestCase):
    def test_there_are_fifteen(self):
        self.assertEqual(len(set(ALL)), 15)
        self.assertEqual(len({refusal.__name__ for refusal in ALL}), 15)

    def test_each_is_a_twig_error_and_a_value_error(self):
        self.assertTrue(issubclass(errors.TwigError, ValueError))
        for refusal in ALL:
            with self.subTest(refusal=refusal.__name__):
                self.assertEqual(refusal.__bases__, (errors.TwigError,))
                self.assertTrue(issubclass(refusal, ValueError))

    def test_none_stands_under_another(self):
        for one in ALL:
            for other in ALL:
                if one != other:
                    self.assertFalse(issubclass(one, other), (one, other))

    def test_those_of_nothing(self):
        for name in OF_NOTHING:
            with self.subTest(name=name):
                made = getattr(errors, name)()
                self.assertIsInstance(made, errors.TwigError)
                self.assertIsInstance(made, ValueError)
                self.assertEqual(made.args, ())
                for field in ("at", "number", "key", "name"):
                    self.assertFalse(hasattr(made, field))

    def test_fields_bear_what_each_was_made_of(self):
        things = [0, 7, -3, "", "a b", (1, ("x",)), None]
        for name, field in FIELDS.items():
            refusal = getattr(errors, name)
            made = [refusal(thing) for thing in things]
            for error, thing in zip(made, things):
                with self.subTest(name=name, thing=thing):
                    self.assertIsInstance(error, errors.TwigError)
                    self.assertIs(getattr(error, field), thing)
                    for other in {"at", "number", "key", "name"} - {field}:
                        self.assertFalse(hasattr(error, other))

    def test_one_thing_and_no_fewer_or_more(self):
        for name in FIELDS:
            with self.subTest(name=name):
                with self.assertRaises(TypeError):
                    getattr(errors, name)()
                with self.assertRaises(TypeError):
                    getattr(errors, name)(1, 2)

    def test_fields_stay_after_others_were_made(self):
        kept = [(name, getattr(errors, name)("kept " + name)) for name in FIELDS]
        for name in FIELDS:
            getattr(errors, name)("other")
        for name, error in kept:
            self.assertEqual(getattr(error, FIELDS[name]), "kept " + name)

    def test_a_refusal_is_caught_by_name_and_by_base(self):
        for name, field in FIELDS.items():
            refusal = getattr(errors, name)
            for base in (refusal, errors.TwigError, ValueError):
                with self.assertRaises(base) as caught:
                    raise refusal(5)
                self.assertEqual(getattr(caught.exception, field), 5)


if __name__ == "__main__":
    unittest.main()
