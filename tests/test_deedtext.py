import itertools

from shownempty.deedtext import read_deed, write_deed
from shownempty.errors import BadText
from tests.helpers import NO_STRINGS, Case, as_lists

STEPS = [(what, source, goal) for what in "az*~" for source, goal in itertools.permutations(range(2), 2)]


class TestDeedText(Case):

    def test_written(self):
        self.assertEqual(write_deed(()), "-")
        self.assertEqual(write_deed((("a", 0, 1),)), "a01")
        self.assertEqual(write_deed((("*", 5, 0), ("~", 4, 3), ("z", 1, 2))), "*50~43z12")

    def test_lists_are_written(self):
        self.assertEqual(write_deed([]), "-")
        self.assertEqual(write_deed([["a", 0, 1], ("~", 1, 0)]), "a01~10")

    def test_read(self):
        self.assertEqual(read_deed("-"), ())
        self.assertEqual(read_deed("a01"), (("a", 0, 1),))
        self.assertEqual(read_deed("*50~43z12"), (("*", 5, 0), ("~", 4, 3), ("z", 1, 2)))
        self.assert_plain(read_deed("*50~43z12"))

    def test_what_is_written_is_read(self):
        for many in range(4):
            for deed in itertools.product(STEPS, repeat=many):
                self.assertEqual(read_deed(write_deed(deed)), deed)
                self.assertEqual(write_deed(as_lists(deed)), write_deed(deed))

    def test_no_strings(self):
        for thing in NO_STRINGS:
            self.refused(BadText(-1), read_deed, thing)

    def test_too_early_an_end(self):
        for text in ("", "a", "a0", "a01b", "a01b1", "a01b10~", "a01b10~0"):
            self.refused(BadText(len(text)), read_deed, text)

    def test_what_goes(self):
        for character in "AZ-?.0 ,`{|}":
            self.refused(BadText(3), read_deed, "a01" + character + "01")
        for character in "AZ?.05 ,`{|}":
            self.refused(BadText(0), read_deed, character + "01")

    def test_places(self):
        for character in "6789ab*~-? /:":
            self.refused(BadText(1), read_deed, "a" + character + "0")
            self.refused(BadText(5), read_deed, "b10a0" + character)

    def test_twice_the_same_place(self):
        for place in "012345":
            self.refused(BadText(2), read_deed, "a" + place + place)
            self.refused(BadText(5), read_deed, "a01~" + place + place + "x")

    def test_a_fourth_step(self):
        for more in ("a", "a01", "*", "~", "-", "x9", "0"):
            self.refused(BadText(9), read_deed, "a01b10c23" + more)

    def test_the_sign_for_no_steps(self):
        for more in ("-", "a", "a01", "0", " "):
            self.refused(BadText(1), read_deed, "-" + more)
        self.refused(BadText(1), read_deed, "a-1")
        self.refused(BadText(2), read_deed, "a0-")
        self.refused(BadText(3), read_deed, "a01-")

    def test_the_first_wrong_one_is_told(self):
        self.refused(BadText(2), read_deed, "a00b11")
        self.refused(BadText(4), read_deed, "a01b99")

    def test_against_all_beginnings_of_texts(self):
        good = {write_deed(deed) for many in range(3) for deed in itertools.product(STEPS, repeat=many)}
        beginnings = {text[:k] for text in good for k in range(len(text) + 1)}
        for length in range(6):
            for characters in itertools.product("az*~01-6", repeat=length):
                text = "".join(characters)
                if text in good:
                    self.assertEqual(write_deed(read_deed(text)), text)
                else:
                    at = max(k for k in range(length + 1) if text[:k] in beginnings)
                    self.refused(BadText(at), read_deed, text)
