"""Points 2 and 16: the classes of refusal, and how they are made."""

import unittest

from tautroads import errors
from tautroads.errors import Ring, RoadError

NAMES = [
    "NoNet", "NoPlace", "NoRoad", "NoWay", "NoTaut", "NoCount", "NoName", "Twice",
    "NoLength", "Full", "Ring", "NoDeed", "NoBook", "NoText", "NoLine",
]


class Refusals(unittest.TestCase):
    def test_road_error_stands_under_value_error(self):
        self.assertEqual(RoadError.__bases__, (ValueError,))

    def test_each_class_stands_straight_under_road_error(self):
        for name in NAMES:
            with self.subTest(name):
                self.assertEqual(getattr(errors, name).__bases__, (RoadError,))

    def test_each_is_made_of_one_text_or_of_nothing(self):
        for name in ["RoadError"] + NAMES:
            with self.subTest(name):
                kind = getattr(errors, name)
                self.assertEqual(str(kind("so it is")), "so it is")
                self.assertEqual(str(kind()), "")
                with self.assertRaises(ValueError) as caught:
                    raise kind("told")
                self.assertIs(type(caught.exception), kind)


class MakingRing(unittest.TestCase):
    def test_of_nothing_or_one_text_it_has_an_empty_list(self):
        for made in (Ring(), Ring(""), Ring("a ring")):
            self.assertIs(type(made.ring), list)
            self.assertEqual(made.ring, [])

    def test_of_a_text_and_a_list_it_has_these(self):
        made = Ring("a ring", ["b", "a", "b"])
        self.assertEqual(made.ring, ["b", "a", "b"])
        self.assertEqual(str(made), "a ring")
        self.assertEqual(Ring("a ring", []).ring, [])

    def test_its_list_is_not_the_one_handed_in(self):
        names = ["a", "b"]
        made = Ring("a ring", names)
        self.assertIsNot(made.ring, names)
        names.append("c")
        self.assertEqual(made.ring, ["a", "b"])
        made.ring.clear()
        self.assertEqual(names, ["a", "b", "c"])

    def test_no_two_share_a_list(self):
        names = ["a"]
        for one, other in (
            (Ring(), Ring()),
            (Ring("x"), Ring("x")),
            (Ring("x", names), Ring("x", names)),
        ):
            kept = list(other.ring)
            one.ring.append("z")
            self.assertIsNot(one.ring, other.ring)
            self.assertEqual(other.ring, kept)
        self.assertEqual(Ring().ring, [])


if __name__ == "__main__":
    unittest.main()
