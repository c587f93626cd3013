import unittest

from askpaper import errors

PLAIN = ("NoNumber", "NoAnswer", "NoKind", "NoSum", "NoSaying", "Nowhere", "NotYet", "NotCome", "NoLine", "NoSay")
WITH_ROW = ("NoRow", "NoLeft")
WITH_NAME = ("Twice", "Unknown", "WrongKind", "NoWay", "OutOfReach")
ALL = PLAIN + WITH_ROW + WITH_NAME + ("Ring",)


class ErrorsTest(unittest.TestCase):
    def test_ask_error_stands_under_value_error(self):
        self.assertTrue(issubclass(errors.AskError, ValueError))

    def test_each_refusal_stands_under_ask_error(self):
        for name in ALL:
            with self.subTest(name):
                refusal = getattr(errors, name)
                self.assertTrue(issubclass(refusal, errors.AskError))
                self.assertIsNot(refusal, errors.AskError)

    def test_no_refusal_stands_under_another_one(self):
        for name in ALL:
            for other in ALL:
                if name != other:
                    with self.subTest(name=name, other=other):
                        self.assertFalse(issubclass(getattr(errors, name), getattr(errors, other)))

    def test_plain_refusals_take_any_words(self):
        for name in PLAIN:
            with self.subTest(name):
                with self.assertRaises(errors.AskError):
                    raise getattr(errors, name)("some words")

    def test_fields_are_set_when_made(self):
        for name in WITH_ROW:
            with self.subTest(name):
                self.assertEqual(getattr(errors, name)(7).row, 7)
        for name in WITH_NAME:
            with self.subTest(name):
                self.assertEqual(getattr(errors, name)("kids").name, "kids")
        self.assertEqual(errors.Ring(["one", "two"]).ring, ["one", "two"])

    def test_a_ring_is_the_askers_own(self):
        ring = ["one", "two"]
        refusal = errors.Ring(ring)
        ring.append("three")
        self.assertEqual(refusal.ring, ["one", "two"])
        refusal.ring.append("four")
        self.assertEqual(ring, ["one", "two", "three"])


if __name__ == "__main__":
    unittest.main()
