"""Point 5 and the list of errors of the interface."""

import unittest

from jawturns import errors
from tests.helpers import ATTRIBUTES, HUGE, NOT_INTEGERS, Case

BARE = [errors.NoPlan, errors.NothingDone]


class Errors(Case):

    def test_all_stand_directly_under_the_base(self):
        self.assertEqual(errors.JawError.__bases__, (ValueError,))
        for error in list(ATTRIBUTES) + BARE:
            self.assertEqual(error.__bases__, (errors.JawError,), error)
            self.assertEqual(error.__module__, "jawturns.errors")

    def test_the_list_of_the_interface_is_whole(self):
        names = {name for name, thing in vars(errors).items()
                 if isinstance(thing, type) and issubclass(thing, Exception)}
        self.assertEqual(names, {
            "JawError", "BadRound", "BadRows", "BadTurn", "BadStanding", "BadWord", "BadSlack", "BadPlan",
            "BadKinds", "BadLog", "BadText", "BadMachine", "TooMany", "NoPlan", "NothingDone"})

    def test_one_attribute_by_position_and_by_name(self):
        for error, name in ATTRIBUTES.items():
            for value in NOT_INTEGERS + [0, -1, HUGE, 10 ** 5000]:
                for made in (error(value), error(**{name: value})):
                    self.assertEqual(list(vars(made)), [name])
                    self.assertIs(vars(made)[name], value)
                    self.assertIsInstance(str(made), str)
            with self.assertRaises(TypeError):
                error()
            with self.assertRaises(TypeError):
                error(1, 2)

    def test_no_attribute(self):
        for error in BARE:
            self.assertEqual(vars(error()), {})

    def test_they_are_caught_as_what_they_are(self):
        for error in ATTRIBUTES:
            for base in (error, errors.JawError, ValueError):
                with self.assertRaises(base):
                    raise error(3)
        for error in BARE:
            for base in (error, errors.JawError, ValueError):
                with self.assertRaises(base):
                    raise error()


if __name__ == "__main__":
    unittest.main()
