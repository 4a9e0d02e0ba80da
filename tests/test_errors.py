import inspect

from shownempty import errors
from tests.helpers import Case

BORNE = {
    "BadSize": ("size",), "BadWord": ("word",), "BadWorld": ("world",), "BadDeed": ("deed",),
    "BadGesture": ("number",), "BadSleight": ("number",), "BadCue": ("number",),
    "BadAnswer": ("number",), "BadText": ("at",), "BadLine": ("line", "word"),
    "BadStatement": ("number",), "BadPattern": ("pattern",), "BadWish": ("wish",),
    "BadHabit": ("number",), "BadEye": ("eye",), "BadEyes": ("eyes",), "BadPatter": ("number",),
    "BadMany": ("many",), "BadHeld": ("number",), "BadKnown": ("number",), "BadMost": ("most",),
    "BadSeen": ("number",), "BadLength": ("length",), "BadTimes": ("times",),
    "BadExtra": ("number",), "BadFail": ("number",), "BadSlips": ("slips",),
    "BadChallenge": ("number",), "BadPlaces": ("places",), "BadKinds": ("kinds",),
    "BadPiece": ("number",), "BadPocket": ("number",), "BadOrder": ("order",),
    "BadOut": ("number",), "BadQuestion": ("number",), "BadPart": ("part",), "BadName": ("name",),
    "NoGesture": ("name",), "NoManner": ("manner",), "NoSleight": ("name",), "NoCue": ("number",),
    "NoEvent": ("number",), "NoStanding": ("standing",), "NoFilling": ("filling",),
    "NoOption": ("option",), "NoPosition": ("position",), "NoSituation": ("situation",),
    "NoState": ("state",), "NoStage": ("stage",), "NoPiece": ("name",), "NoDeed": (),
    "Unreached": ("world",), "Lost": ("world",), "TooMany": ("word",), "TooLong": ("number",),
    "Twice": ("name",), "Unknown": ("name",), "Unlike": ("word",), "InUse": ("name",),
    "Torn": ("line",),
}


class TestErrors(Case):

    def test_all_are_there_and_no_others(self):
        there = [name for name, thing in vars(errors).items() if inspect.isclass(thing)]
        self.assertEqual(sorted(there), sorted(list(BORNE) + ["ShowError"]))

    def test_bases(self):
        self.assertEqual(errors.ShowError.__bases__, (ValueError,))
        for name in BORNE:
            self.assertEqual(getattr(errors, name).__bases__, (errors.ShowError,), name)

    def test_each_keeps_what_it_bears(self):
        for name, borne in BORNE.items():
            things = [[k] for k in range(len(borne))]
            error = getattr(errors, name)(*things)
            self.assertEqual(list(vars(error)), list(borne), name)
            for attribute, thing in zip(borne, things):
                self.assertIs(getattr(error, attribute), thing, name)

    def test_each_is_caught_as_a_show_error(self):
        for name, borne in BORNE.items():
            with self.assertRaises(errors.ShowError):
                raise getattr(errors, name)(*borne)

    def test_wrong_numbers_of_arguments(self):
        for name, borne in BORNE.items():
            if borne:
                self.assertRaises(TypeError, getattr(errors, name))
                self.assertRaises(TypeError, getattr(errors, name), *borne, 1)
