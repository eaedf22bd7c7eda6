import unittest

from pollproof import errors
from pollproof.errors import PollError, TooHard, WrongNumber

PLAIN = ["NoNumber", "NoBallot", "NoSheet", "NoChange", "Torn", "NoBundle", "NoWay", "Ended", "NoRow"]


def made():
    """One error of each of the eleven classes, by the class's name."""
    some = {name: getattr(errors, name)("some words") for name in PLAIN}
    some["WrongNumber"] = WrongNumber(5, 3)
    some["TooHard"] = TooHard(7)
    return some


class Classes(unittest.TestCase):
    def test_the_base_stands_straight_under_valueerror(self):
        self.assertEqual(PollError.__bases__, (ValueError,))

    def test_there_are_eleven_each_straight_under_the_base(self):
        some = made()
        self.assertEqual(len(some), 11)
        for name, error in some.items():
            with self.subTest(name):
                self.assertIs(type(error), getattr(errors, name))
                self.assertEqual(type(error).__name__, name)
                self.assertEqual(type(error).__bases__, (PollError,))
                self.assertIsInstance(error, PollError)
                self.assertIsInstance(error, ValueError)

    def test_none_is_an_instance_of_another_one(self):
        for name, error in made().items():
            for other in made():
                with self.subTest(name=name, other=other):
                    self.assertEqual(isinstance(error, getattr(errors, other)), name == other)

    def test_the_base_is_none_of_the_eleven(self):
        for name in made():
            with self.subTest(name):
                self.assertNotIsInstance(PollError("some words"), getattr(errors, name))

    def test_each_is_raised_and_taken_by_its_own_name_and_by_the_base(self):
        for name, error in made().items():
            for taken in (getattr(errors, name), PollError, ValueError):
                with self.subTest(name=name, taken=taken):
                    with self.assertRaises(taken) as seen:
                        raise error
                    self.assertIs(seen.exception, error)


class Making(unittest.TestCase):
    def test_with_a_text(self):
        for name in PLAIN + ["PollError"]:
            with self.subTest(name):
                self.assertEqual(str(getattr(errors, name)("some words")), "some words")

    def test_with_nothing(self):
        for name in PLAIN + ["PollError"]:
            with self.subTest(name):
                error = getattr(errors, name)()
                self.assertIsInstance(error, PollError)
                self.assertEqual(str(error), "")

    def test_wrong_number_bears_wanted_and_got(self):
        for wanted, got in [(5, 3), (3, 5), (0, 10 ** 12), (10 ** 5000, 0)]:
            error = WrongNumber(wanted, got)
            self.assertTrue(error.wanted == wanted and error.got == got)
            named = WrongNumber(wanted=wanted, got=got)
            self.assertTrue(named.wanted == wanted and named.got == got)

    def test_too_hard_bears_at_least(self):
        for at_least in [1, 0, 10 ** 12, 10 ** 5000]:
            self.assertTrue(TooHard(at_least).at_least == at_least)
            self.assertTrue(TooHard(at_least=at_least).at_least == at_least)

    def test_the_values_are_those_of_each_error_alone(self):
        first = WrongNumber(1, 2)
        WrongNumber(3, 4)
        self.assertEqual((first.wanted, first.got), (1, 2))
        hard = TooHard(1)
        TooHard(2)
        self.assertEqual(hard.at_least, 1)

    def test_those_that_bear_values_are_not_made_without_them(self):
        for make in (lambda: WrongNumber(), lambda: WrongNumber(1), lambda: TooHard(), lambda: TooHard(1, 2)):
            with self.assertRaises(TypeError):
                make()


if __name__ == "__main__":
    unittest.main()
