"""How things are written and read: point 6, and what point 1 says of both."""

import unittest
from copy import deepcopy
from itertools import product

from benchpair.errors import BadText, BadThings, BenchError
from benchpair.texts import read, written
from tests.oracles import text_holds
from tests.samples import bad_things, mixed_things, no_lists

SIXTY = 10 ** 60 - 1
SIGNS = [chr(code) for code in range(127)]

# Worked out by hand: things and the very text.
BY_HAND = [
    ([], "-"),
    ([(0, 0, 0)], "0/0/0"),
    ([(1, 2, 3)], "1/2/3"),
    ([(3, 0, 40)], "3/0/40"),
    ([(10, 100, 909)], "10/100/909"),
    ([(1, 2, 3), (4, 5, 6)], "1/2/3 4/5/6"),
    ([(4, 5, 6), (1, 2, 3)], "4/5/6 1/2/3"),
    ([(7, 8, 9), (7, 8, 9), (0, 0, 0)], "7/8/9 7/8/9 0/0/0"),
    ([(9, 9, 9)] * 5, "9/9/9 9/9/9 9/9/9 9/9/9 9/9/9"),
    ([(SIXTY, 0, 1)], "9" * 60 + "/0/1"),
    ([(0, SIXTY, 10 ** 59)], "0/" + "9" * 60 + "/1" + "0" * 59),
    ([(1, 2, 3), (5, 6, 10 ** 59 + 7)], "1/2/3 5/6/1" + "0" * 58 + "7"),
]


def changed_texts(text):
    """All texts with one sign more, one less, or one other than in this one, up to `~`."""
    for place in range(len(text) + 1):
        for sign in SIGNS:
            yield text[:place] + sign + text[place:]
            if place < len(text):
                yield text[:place] + sign + text[place + 1:]
        if place < len(text):
            yield text[:place] + text[place + 1:]


class WrittenTest(unittest.TestCase):
    def test_the_very_text(self):
        for things, text in BY_HAND:
            with self.subTest(text=text):
                told = written(things)
                self.assertIs(type(told), str)
                self.assertEqual(told, text)
        self.assertEqual(written(things=[(1, 2, 3)]), "1/2/3")

    def test_many_things(self):
        things = mixed_things(3000, 10 ** 4, 5)
        text = " ".join(f"{first}/{drying}/{second}" for first, drying, second in things)
        self.assertTrue(written(things) == text)
        self.assertTrue(read(text) == things)

    def test_what_is_written_is_read_again(self):
        for seed in range(60):
            things = mixed_things(seed % 7, (2, 10, 10 ** 4)[seed % 3], seed)
            text = written(things)
            self.assertTrue(text_holds(text))
            self.assertEqual(read(text), things)

    def test_nothing_handed_in_is_changed(self):
        for things, text in BY_HAND:
            given = deepcopy(things)
            self.assertEqual((written(given), written(given)), (text, text))
            self.assertEqual(given, things)


class ReadTest(unittest.TestCase):
    def assert_bad_text(self, text):
        with self.assertRaises(BadText) as caught:
            read(text)
        self.assertIs(type(caught.exception), BadText)
        self.assertIsInstance(caught.exception, BenchError)

    def assert_just_what_is_written(self, text):
        """Read if some things are written so, and refused if not."""
        if text_holds(text):
            self.assertEqual(written(read(text)), text)
        else:
            self.assert_bad_text(text)

    def test_the_very_things(self):
        for things, text in BY_HAND:
            with self.subTest(text=text):
                told = read(text)
                self.assertIs(type(told), list)
                self.assertEqual(told, things)
                for thing in told:
                    self.assertIs(type(thing), tuple)
                    self.assertEqual([type(part) for part in thing], [int, int, int])
        self.assertEqual(read(text="1/2/3"), [(1, 2, 3)])

    def test_what_is_not_written_so(self):
        texts = [
            "", " ", "  ", " -", "- ", "--", "- -", "-\n", "\n", "\t",
            " 1/2/3", "1/2/3 ", "1/2/3  4/5/6", "1/2/3\t4/5/6", "1/2/3\n4/5/6", "1/2/3\n",
            "1/2/3\t", "\t1/2/3", "\n1/2/3", "1/2/3\r", "1/2/3\r\n", "1 /2/3", "1/ 2/3", "1/2/ 3",
            "01/2/3", "1/00/3", "1/02/3", "1/2/03", "00/0/0", "000/0/0", "1/2/3 4/5/06",
            "+1/2/3", "1/+2/3", "1/2/-3", "-1/2/3", "-0/0/0", "1/2/3_0", "1_0/2/3", "1/2/_3",
            "1/2/3 -", "- 1/2/3", "-/-/-", "1/-/3", "-1/2/3 4/5/6",
            "1", "1/2", "1/2/3/4", "1/2/3 4/5", "1/2/3 4/5/6/7", "1/2/3 4", "1/2 3/4/5",
            "/1/2/3", "1/2/3/", "1//2/3", "//", "/", "1//3", "/2/3", "1/2/", "1/2//3",
            "a/b/c", "1/2/x", "1/2/3,4/5/6", "1,2,3", "1.0/2/3", "1e2/2/3", "0x1/2/3", "(1/2/3)",
            "[]", "[(1, 2, 3)]", "None", "1/2/3;", "1\\2\\3", "~", "1/2/3 ~", "1/2/3\0",
        ]
        for text in texts:
            with self.subTest(text=text):
                self.assertFalse(text_holds(text))
                self.assert_bad_text(text)

    def test_more_than_sixty_figures(self):
        for figures in ("1" + "0" * 60, "9" * 61, "9" * 5000, "0" * 60, "0" * 61, "0" + "9" * 60):
            for text in (f"{figures}/2/3", f"1/{figures}/3", f"1/2/3 4/5/{figures}"):
                with self.subTest(text=text[:20], many=len(text)):
                    self.assert_bad_text(text)

    def test_each_text_with_one_sign_changed(self):
        for text in ("-", "1/2/3", "10/0/907", "0/0/0 5/20/6"):
            for changed in changed_texts(text):
                self.assert_just_what_is_written(changed)

    def test_all_short_texts(self):
        for many in range(7):
            for signs in product("0 1/-", repeat=many):
                self.assert_just_what_is_written("".join(signs))
        for signs in product("02/ ", repeat=7):
            self.assert_just_what_is_written("".join(signs))

    def test_what_is_no_text(self):
        values = [value for _, value in no_lists() if not isinstance(value, str)]
        values += [[], ["1/2/3"], [(1, 2, 3)], ["-"], ("1/2/3",), ("-",), b"1/2/3", b"-", b""]
        for at, value in enumerate(values):
            with self.subTest(at=at):
                self.assert_bad_text(value)

    def test_what_was_read_may_be_changed(self):
        for things, text in BY_HAND:
            told = read(text)
            told.append((1, 1, 1))
            told[0] = None
            self.assertEqual(read(text), things)


class RefusedTest(unittest.TestCase):
    def assert_bad_things(self, value):
        with self.assertRaises(BadThings) as caught:
            written(value)
        self.assertIs(type(caught.exception), BadThings)
        self.assertIsInstance(caught.exception, BenchError)

    def test_bad_things(self):
        for label, value in bad_things():
            with self.subTest(things=label):
                self.assert_bad_things(value)

    def test_more_than_sixty_figures(self):
        for length in (SIXTY + 1, 10 ** 60 + 1, 10 ** 61, 10 ** 5000):
            for place in range(3):
                for part in range(3):
                    thing = (0,) * part + (length,) + (0,) * (2 - part)
                    things = [(1, 2, 3)] * place + [thing] + [(1, 2, 3)] * (2 - place)
                    given = list(things)
                    with self.subTest(many=length.bit_length(), place=place, part=part):
                        self.assert_bad_things(given)
                        self.assertTrue(given == things)

    def test_a_refusal_leaves_nothing_behind(self):
        things = [(1, 2, 3), (4, 5, -6)]
        self.assert_bad_things(things)
        self.assertEqual(things, [(1, 2, 3), (4, 5, -6)])
        self.assertEqual(written([(1, 2, 3)]), "1/2/3")


if __name__ == "__main__":
    unittest.main()
