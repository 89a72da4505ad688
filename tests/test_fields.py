"""Point 2 and the class Field."""

import unittest

from forbidmoves.boards import Field
from forbidmoves.errors import BadField
from tests.helper import NOT_NAMES, NOT_STRINGS


class Making(unittest.TestCase):
    def refuse(self, *values, **more):
        with self.assertRaises(BadField, msg=repr((len(values), more))):
            Field(*values, **more)

    def test_properties(self):
        field = Field(1, "b", "a", goal=True)
        self.assertEqual([field.owner, field.targets, field.goal], [1, ("b", "a"), True])
        field = Field(2, "abcdefgh")
        self.assertEqual([field.owner, field.targets, field.goal], [2, ("abcdefgh",), False])

    def test_kinds_of_the_properties(self):
        field = Field(1, "b", "a")
        self.assertIs(type(field.owner), int)
        self.assertIs(type(field.targets), tuple)
        self.assertIs(field.goal, False)
        self.assertIs(Field(1, goal=True).goal, True)
        self.assertIs(Field(1, goal=False).goal, False)

    def test_no_targets(self):
        self.assertEqual(Field(2).targets, ())
        self.assertEqual(len(Field(2)), 0)

    def test_names_of_one_and_of_eight_letters(self):
        for name in ["a", "z", "m", "abcdefgh", "zzzzzzzz", "az", "stuvwxy"]:
            self.assertEqual(Field(1, name).targets, (name,))

    def test_more_targets_than_a_board_has_fields(self):
        names = tuple("abcdefghijklmnopqrstuvwxyz")
        self.assertEqual(Field(1, *names).targets, names)
        self.assertEqual(len(Field(1, *names)), 26)

    def test_wrong_owners(self):
        for owner in [0, 3, -1, -2, 12, 10 ** 30, True, False, None, "1", "2", b"1", [1], (1,), {1: 1}, {1}, Field]:
            self.refuse(owner)
            self.refuse(owner, "a", goal=True)

    def test_wrong_names(self):
        for name in NOT_NAMES + NOT_STRINGS:
            self.refuse(1, name)
            self.refuse(2, "a", name)
            self.refuse(2, name, "a", goal=True)

    def test_a_list_of_targets_is_not_the_targets(self):
        self.refuse(1, ["a", "b"])
        self.refuse(1, ("a", "b"))
        self.refuse(1, [])
        self.refuse(1, ())

    def test_equal_names(self):
        self.refuse(1, "a", "a")
        self.refuse(1, "a", "b", "a")
        self.refuse(2, "b", "a", "a")
        self.refuse(2, "ab", "".join(["a", "b"]))

    def test_wrong_goals(self):
        for goal in [None, 0, 1, "", "True", [], (), {}, bool]:
            self.refuse(1, "a", goal=goal)
            self.refuse(2, goal=goal)

    def test_properties_cannot_be_assigned(self):
        field = Field(1, "a")
        for name, value in [("owner", 2), ("targets", ()), ("goal", True)]:
            with self.assertRaises(AttributeError):
                setattr(field, name, value)
        self.assertEqual([field.owner, field.targets, field.goal], [1, ("a",), False])


class Asking(unittest.TestCase):
    def test_contains_its_targets(self):
        field = Field(1, "b", "abcdefgh")
        self.assertIs("b" in field, True)
        self.assertIs("abcdefgh" in field, True)
        for name in ["a", "c", "abc", "bb", "abcdefghi", "B", ""]:
            self.assertIs(name in field, False)
        self.assertIs("a" in Field(1), False)

    def test_contains_asks_for_a_value_of_any_kind(self):
        field = Field(2, "a", "b")
        for value in NOT_STRINGS + NOT_NAMES:
            self.assertIs(value in field, False)

    def test_a_name_is_not_a_target_because_of_owner_or_goal(self):
        self.assertNotIn("a", Field(1, "b", goal=True))

    def test_length(self):
        self.assertEqual([len(Field(1)), len(Field(2, "c")), len(Field(1, "c", "b", "a"))], [0, 1, 3])
        self.assertEqual(len(Field(2, "abcdefgh", goal=True)), 1)

    def test_minus(self):
        field = Field(1, "b", "a", goal=True)
        other = -field
        self.assertIsInstance(other, Field)
        self.assertEqual([other.owner, other.targets, other.goal], [2, ("b", "a"), True])
        self.assertEqual([field.owner, field.targets, field.goal], [1, ("b", "a"), True])
        self.assertEqual(-other, field)
        self.assertEqual(-Field(2), Field(1))
        self.assertEqual((-Field(2, "a")).goal, False)

    def test_equality(self):
        self.assertTrue(Field(1, "a", "b", goal=True) == Field(1, "a", "b", goal=True))
        self.assertFalse(Field(1, "a", "b", goal=True) != Field(1, "a", "b", goal=True))
        self.assertTrue(Field(2) == Field(2, goal=False))

    def test_inequality(self):
        field = Field(1, "a", "b")
        for other in [Field(2, "a", "b"), Field(1, "b", "a"), Field(1, "a"), Field(1, "a", "b", "c"), Field(1),
                      Field(1, "a", "c"), Field(1, "a", "b", goal=True)]:
            self.assertFalse(field == other)
            self.assertTrue(field != other)

    def test_a_field_equals_no_other_value(self):
        for other in [None, 1, True, "a", ("a",), ["a"], (1, ("a",), False), object()]:
            self.assertFalse(Field(1, "a") == other)
            self.assertTrue(Field(1, "a") != other)


if __name__ == "__main__":
    unittest.main()
