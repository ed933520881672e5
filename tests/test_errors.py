"""Section 2: the errors."""

from nevertakenback import errors
from tests.samples import Case, wrong_values

NAMES = (
    "TakenError BadCourt NoPlace NoPlayer Same BadTicks NoWay BadLength BadStretch BadPlay NoBall BadTick BadStrike "
    "CannotStand BadNumbers Unlike BadRing BadLags Ring WrongLags BadField BadSpot BadTime Steep BadFields NoFault "
    "BadLetter Clash WrongFields NotSeen BadCourse BadDeed Full NoLetter BadFraction BadFactor BadOffsets BadNeeds "
    "BadDelays BadScript BadLine BadLines NothingToUndo NothingToRedo BadJournal"
).split(" ")


class Errors(Case):
    def test_all_derive_directly_from_taken_error(self):
        self.assertEqual(errors.TakenError.__bases__, (ValueError,))
        for name in NAMES[1:]:
            self.assertEqual(getattr(errors, name).__bases__, (errors.TakenError,), name)

    def test_each_is_defined_in_this_file_under_its_name(self):
        for name in NAMES:
            self.assertEqual(getattr(errors, name).__module__, "nevertakenback.errors")
            self.assertEqual(getattr(errors, name).__name__, name)

    def test_there_are_no_others(self):
        found = [name for name, value in vars(errors).items() if isinstance(value, type)]
        self.assertEqual(sorted(found), sorted(NAMES))

    def test_each_keeps_any_value(self):
        for name in NAMES:
            for value in wrong_values() + [0, 1, "a", (1, 2)]:
                self.assertIs(getattr(errors, name)(value).value, value)

    def test_each_can_be_caught_as_taken_error_and_value_error(self):
        for name in NAMES:
            for kind in (errors.TakenError, ValueError):
                with self.assertRaises(kind):
                    raise getattr(errors, name)(3)

    def test_each_takes_just_one_argument(self):
        for name in NAMES:
            for told in ((), (1, 2)):
                with self.assertRaises(TypeError):
                    getattr(errors, name)(*told)
