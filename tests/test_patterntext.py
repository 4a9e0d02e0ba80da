import itertools

from shownempty.errors import BadPattern, BadText
from shownempty.patterntext import read_pattern, write_pattern
from tests.helpers import NO_STRINGS, NO_TUPLES, Case


def is_good(text):
    """Whether it is the text of a pattern, told by its items."""
    if text == ".":
        return True
    items = text.split(",")
    if len(items) > 6 or sum(item.count(letter) for item in items for letter in "abz") > 8:
        return False
    return all(item in ("-", "?") or item != "" and set(item) <= set("abz") and list(item) == sorted(item)
               for item in items)


class TestPatternText(Case):

    def test_written(self):
        self.assertEqual(write_pattern(()), ".")
        self.assertEqual(write_pattern(("",)), "-")
        self.assertEqual(write_pattern((None,)), "?")
        self.assertEqual(write_pattern(("aab", "", None, "z")), "aab,-,?,z")
        self.assertEqual(write_pattern(["", None]), "-,?")

    def test_a_world_is_written_as_one(self):
        self.assertEqual(write_pattern(("a", "", "bbc")), "a,-,bbc")

    def test_read(self):
        self.assertEqual(read_pattern("."), ())
        self.assertEqual(read_pattern("-"), ("",))
        self.assertEqual(read_pattern("?"), (None,))
        self.assertEqual(read_pattern("aab,-,?,z"), ("aab", "", None, "z"))
        self.assert_plain(read_pattern("aab,-,?,z"))

    def test_what_is_written_is_read(self):
        for many in range(5):
            for pattern in itertools.product(("", None, "a", "bz"), repeat=many):
                self.assertEqual(read_pattern(write_pattern(pattern)), pattern)

    def test_bad_patterns(self):
        for pattern in NO_TUPLES + ((None,) * 7, ["ba"], ("aaaaa", "aaaa"), [0], (True,), ("?",), ("-",)):
            self.refused(BadPattern(pattern), write_pattern, pattern)

    def test_no_strings(self):
        for thing in NO_STRINGS:
            self.refused(BadText(-1), read_pattern, thing)

    def test_too_early_an_end(self):
        for text in ("", "a,", "-,", "?,a,", "-,-,-,-,-,"):
            self.refused(BadText(len(text)), read_pattern, text)

    def test_eight_and_nine_letters(self):
        self.assertEqual(read_pattern("abcdefgh"), ("abcdefgh",))
        self.assertEqual(read_pattern("aaaa,?,aaaa"), ("aaaa", None, "aaaa"))
        self.refused(BadText(8), read_pattern, "abcdefghi")
        self.refused(BadText(11), read_pattern, "aaaa,?,aaaaa,x?")
        self.refused(BadText(9), read_pattern, "aaaabbbb,c")

    def test_falling_letters(self):
        self.refused(BadText(1), read_pattern, "ba")
        self.refused(BadText(4), read_pattern, "b,bca")
        self.assertEqual(read_pattern("b,a"), ("b", "a"))

    def test_six_and_seven_items(self):
        self.assertEqual(read_pattern("-,?,a,-,?,a"), ("", None, "a", "", None, "a"))
        self.refused(BadText(11), read_pattern, "-,?,a,-,?,a,")
        self.refused(BadText(11), read_pattern, "-,?,a,-,?,a,-")

    def test_commas(self):
        self.refused(BadText(0), read_pattern, ",")
        self.refused(BadText(0), read_pattern, ",a")
        self.refused(BadText(2), read_pattern, "a,,a")

    def test_behind_a_sign(self):
        for sign in "-?":
            for more in "-?a.":
                self.refused(BadText(1), read_pattern, sign + more)
                self.refused(BadText(3), read_pattern, "a," + sign + more)
                self.refused(BadText(1), read_pattern, "a" + sign + more)

    def test_the_sign_for_no_items(self):
        for more in (".", "a", "-", ",", "?", ",a", " "):
            self.refused(BadText(1), read_pattern, "." + more)
        self.refused(BadText(1), read_pattern, "a.")
        self.refused(BadText(2), read_pattern, "a,.")

    def test_other_characters(self):
        for character in "AZ0*~ `{|}_":
            self.refused(BadText(0), read_pattern, character)
            self.refused(BadText(1), read_pattern, "a" + character)
            self.refused(BadText(2), read_pattern, "a," + character)

    def test_against_all_beginnings_of_texts(self):
        for length in range(6):
            for characters in itertools.product("abz-?,.A", repeat=length):
                text = "".join(characters)
                if is_good(text):
                    self.assertEqual(write_pattern(read_pattern(text)), text)
                else:
                    # What can be gone on with is good itself, or is so with one item behind it.
                    at = max(k for k in range(length + 1) if k == 0 or is_good(text[:k]) or is_good(text[:k] + "-"))
                    self.refused(BadText(at), read_pattern, text)
