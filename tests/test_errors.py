"""The refusals of the interface: what they stand under, what they are made of, their fields [2]."""

import unittest

from tests import helper
from wirenames import errors

MADE_OF_A_TEXT = (
    "NoName NoMark NoTries NoBounds NoRule NoHands NoNext NoLess NoPaper NoSaying "
    "TooMany Claimed NoClaim SameWire NotEmpty"
).split()

WITH_A_FIELD = {
    "NoScript": ("at", 3),
    "Early": ("number", 3),
    "Came": ("number", 3),
    "Owed": ("number", 3),
    "Due": ("numbers", (1, 3)),
}

LOOKED_FOR = {"NoHand": "hand", "NoWire": "wire", "NotOn": "hand", "IsOn": "hand", "NoLetter": "number"}


class Refusals(unittest.TestCase):
    def test_wire_error_stands_straight_under_value_error(self):
        self.assertEqual(errors.WireError.__bases__, (ValueError,))
        self.assertEqual(str(errors.WireError("a text")), "a text")

    def test_those_of_a_text_stand_straight_under_wire_error(self):
        for name in MADE_OF_A_TEXT:
            refusal = getattr(errors, name)
            self.assertEqual(refusal.__bases__, (errors.WireError,), name)
            self.assertEqual(str(refusal("a text")), "a text")

    def test_those_with_a_field_stand_straight_under_wire_error(self):
        for name, (field, worth) in WITH_A_FIELD.items():
            refusal = getattr(errors, name)
            self.assertEqual(refusal.__bases__, (errors.WireError,), name)
            self.assertEqual(getattr(refusal(worth), field), worth)
            self.assertEqual(getattr(refusal(**{field: worth}), field), worth)

    def test_a_script_that_is_none_at_all_has_no_place(self):
        self.assertIsNone(errors.NoScript(None).at)

    def test_those_of_things_looked_for_stand_straight_under_lookup_error(self):
        for name, field in LOOKED_FOR.items():
            refusal = getattr(errors, name)
            self.assertEqual(refusal.__bases__, (LookupError,), name)
            self.assertEqual(getattr(refusal(3), field), 3)
            self.assertEqual(getattr(refusal(**{field: 3}), field), 3)

    def test_a_field_is_what_was_handed_in_whatever_that_is(self):
        for name, field in LOOKED_FOR.items():
            for thing in helper.any_things():
                held = getattr(getattr(errors, name)(thing), field)
                self.assertEqual(held, thing)
                self.assertIs(type(held), type(thing))

    def test_a_field_keeps_no_list_that_was_handed_in(self):
        for name, field in LOOKED_FOR.items():
            within = [1]
            thing = [within, (within, 2)]
            refusal = getattr(errors, name)(thing)
            within.append(5)
            thing.append(6)
            self.assertEqual(getattr(refusal, field), [[1], ([1], 2)])

    def test_a_message_is_a_text_whatever_was_handed_in(self):
        fields = {name: [1] for name in LOOKED_FOR}
        fields.update({name: worth for name, (_, worth) in WITH_A_FIELD.items()})
        for name, worth in fields.items():
            refusal = getattr(errors, name)(worth)
            self.assertEqual([type(part) for part in refusal.args], [str], name)


if __name__ == "__main__":
    unittest.main()
