import re
import unittest

from slipseen.errors import NoNote
from slipseen.notes import read, shown
from tests.support import ARTICLES, BLIND, DAMM, LATE, is_of_tuples, latin, made, summed

SIGNS = [chr(code) for code in range(32, 127) if chr(code) != "%"] + ["\t", "\n"]

SIZES = ((2, 1, 1), (2, 1, 6), (2, 12, 1), (3, 2, 2), (5, 11, 3), (7, 10, 4), (10, 1, 1), (10, 12, 5), (10, 12, 6))

SMALL = "2 2 2\n0 1\n1 0\n0 0\n1 1"
SMALL_SCHEME = (2, (((0, 1), (1, 0)), ((0, 0), (1, 1))))

LINE = re.compile(r"(0|[1-9][0-9]*)( (0|[1-9][0-9]*))*\Z")


def slow_read(text):
    """What the document says of a text, sentence by sentence: a scheme, or None."""
    lines = text.split("\n")
    if not all(LINE.match(line) for line in lines):
        return None
    numbers = [tuple(int(word[:20]) for word in line.split(" ")) for line in lines]
    if len(numbers[0]) != 3:
        return None
    base, states, tables = numbers[0]
    if not (2 <= base <= 10 and 1 <= states <= 12 and 1 <= tables <= 6 and len(lines) == 1 + states * tables):
        return None
    if not all(len(row) == base and max(row) < states for row in numbers[1:]):
        return None
    return (base, tuple(tuple(numbers[1 + turn * states + state] for state in range(states)) for turn in range(tables)))


class Shown(unittest.TestCase):
    def test_to_the_sign(self):
        self.assertEqual(shown(BLIND), "2 1 1\n0 0")
        self.assertEqual(shown(SMALL_SCHEME), SMALL)
        self.assertEqual(shown(summed(3, (1, 2), 3)), "3 3 2\n0 1 2\n1 2 0\n2 0 1\n0 2 1\n1 0 2\n2 1 0")

    def test_numbers_of_two_figures(self):
        self.assertEqual(shown((10, ((((11,) * 10,) * 12),) * 6)), "10 12 6" + "\n11 11 11 11 11 11 11 11 11 11" * 72)
        self.assertEqual(shown(DAMM).split("\n")[:3], ["10 10 1", "0 3 1 7 5 9 8 6 4 2", "7 0 9 2 1 5 4 8 6 3"])

    def test_no_line_end_behind_the_last_line(self):
        for size in SIZES:
            text = shown(made(*size, seed=1))
            self.assertEqual(len(text.split("\n")), 1 + size[1] * size[2])
            self.assertRegex(text, r"\A[0-9]+( [0-9]+)*(\n[0-9]+( [0-9]+)*)*\Z")
            self.assertIs(text.__class__, str)


class Read(unittest.TestCase):
    def assert_refused(self, text):
        with self.subTest(text=text[:200]):
            with self.assertRaises(NoNote):
                read(text)

    def test_what_is_shown_is_read(self):
        schemes = [BLIND, DAMM, ARTICLES, LATE, (10, ((((11,) * 10,) * 12),) * 6)]
        for size in SIZES:
            for seed in range(5):
                schemes.extend([made(*size, seed=seed), latin(*size, seed=seed)])
        for scheme in schemes:
            with self.subTest(scheme=scheme):
                self.assertEqual(read(shown(scheme)), scheme)
                self.assertTrue(is_of_tuples(read(shown(scheme))))

    def test_written_by_hand(self):
        self.assertEqual(read(SMALL), SMALL_SCHEME)
        self.assertEqual(read("2 1 1\n0 0"), BLIND)
        self.assertEqual(read("3 1 2\n0 0 0\n0 0 0"), (3, (((0, 0, 0),), ((0, 0, 0),))))
        self.assertEqual(read("3 2 1\n0 0 0\n0 1 0"), (3, (((0, 0, 0), (0, 1, 0)),)))

    def test_blanks_tabs_and_line_ends(self):
        for text in ("", " ", "\n", "\n\n", "\t", "2", "2 1", "2 1 1", "2 1 1\n", "2 1 1\n0", "2 1 1\n0 0\n",
                     "2 1 1\n0 0 ", "2 1 1\n 0 0", "2 1 1\n0  0", "2 1 1\n0\t0", "2 1 1\n0 0\t", "2 1 1 \n0 0",
                     " 2 1 1\n0 0", "2  1 1\n0 0", "2\t1 1\n0 0", "\n2 1 1\n0 0", "2 1 1\n\n0 0", "2 1 1\n0 0\n\n",
                     "2 1 1 0 0", "2 1 1\n0\n0", "2\n1\n1\n0 0", "2 1\n1\n0 0", "2 1 1\n0 0\n ", "2 1 1\n00"):
            self.assert_refused(text)

    def test_numbers_written_otherwise(self):
        for text in ("2 1 1\n+0 0", "2 1 1\n-0 0", "+2 1 1\n0 0", "2 1 -1\n0 0", "02 1 1\n0 0", "2 01 1\n0 0",
                     "2 1 001\n0 0", "2 1 1\n00 0", "2 1 1\n0 00", "2 1 1\n0.0 0", "2 1 1\n0 0.", "2 1 1\n0, 0",
                     "2 1 1\n0,0", "2 1 1\no 0", "two 1 1\n0 0", "2 1 1\n0 a", "2 1 1\n0_0 0", "2 1 1\n0x0 0",
                     "2 1 1\n0 0 # good", "(2 1 1)\n0 0", "2 1 1\n(0 0)", "2 1 1\n0 0;", "2 1 1_0\n0 0",
                     "2 1e0 1\n0 0", "2 2 1\n0 1\n01 0"):
            self.assert_refused(text)

    def test_lines_too_many_too_few_or_told_twice(self):
        lines = SMALL.split("\n")
        for at in range(len(lines)):
            self.assert_refused("\n".join(lines[:at] + lines[at + 1:]))
            self.assert_refused("\n".join(lines[:at] + [lines[at]] + lines[at:]))
            self.assert_refused("\n".join(lines[:at] + [""] + lines[at:]))
        self.assert_refused(SMALL + SMALL)
        self.assert_refused(SMALL + "\n" + SMALL)
        self.assert_refused(SMALL + "\n\n" + SMALL)

    def test_numbers_too_many_or_too_few_in_a_line(self):
        for text in ("2 1 1 1\n0 0", "2 1 1 \n0 0", "2 1 1\n0 0 0", "2 1 1\n0", "3 1 1\n0 0", "2 2 1\n0 1 1\n0",
                     "2 2 1\n0\n1 0 1", "2 2 1\n0 1\n1 0 1"):
            self.assert_refused(text)

    def test_each_bound_by_one(self):
        for base in (0, 1, 11):
            self.assert_refused(f"{base} 1 1\n" + " ".join(["0"] * base))
        for states in (0, 13):
            self.assert_refused("\n".join([f"2 {states} 1"] + ["0 0"] * states))
        for tables in (0, 7):
            self.assert_refused("\n".join([f"2 1 {tables}"] + ["0 0"] * tables))
        for states in range(1, 13):
            good = "\n".join([f"2 {states} 1"] + [f"0 {states - 1}"] * states)
            self.assertEqual(read(good), (2, (((0, states - 1),) * states,)))
            self.assert_refused("\n".join([f"2 {states} 1"] + [f"0 {states}"] + ["0 0"] * (states - 1)))
            self.assert_refused("\n".join([f"2 {states} 1"] + ["0 0"] * (states - 1) + [f"{states} 0"]))
        for base, states, tables in ((2, 12, 6), (10, 1, 6), (10, 12, 1)):
            read("\n".join([f"{base} {states} {tables}"] + [" ".join(["0"] * base)] * (states * tables)))

    def test_the_heading_does_not_fit_the_rows(self):
        rows = "\n".join(["0 1"] * 12)
        for states, tables in ((12, 1), (6, 2), (4, 3), (3, 4), (2, 6)):
            scheme = read(f"2 {states} {tables}\n{rows}")
            self.assertEqual((len(scheme[1]), len(scheme[1][0])), (tables, states))
        for states, tables in ((1, 12), (12, 2), (11, 1), (6, 1), (5, 2), (12, 0), (0, 12), (0, 0), (1, 1), (4, 4)):
            self.assert_refused(f"2 {states} {tables}\n{rows}")

    def test_very_large_numbers(self):
        for digits in ("9" * 30, "1" + "0" * 3900, "9" * 4500, "0" * 3000, "1" * 700):
            for text in ("N 1 1\n0 0", "2 N 1\n0 0", "2 1 N\n0 0", "2 N N\n0 0", "2 1 1\nN 0", "2 1 1\n0 N", "N",
                         "2 1 1\n0 0\nN", "2 1 1\n-N 0", "N N N"):
                self.assert_refused(text.replace("N", digits))

    def test_texts_of_many_signs(self):
        for sign in ("0", " ", "\n", "\t", "0 ", "0\n", "12 ", "2 1 1\n"):
            self.assert_refused(sign * (4000 // len(sign)))
            self.assert_refused(sign * 3000)
            self.assert_refused(SMALL + sign * 1900)

    def assert_as_told(self, text):
        expected = slow_read(text)
        try:
            scheme = read(text)
        except NoNote:
            scheme = None
        self.assertEqual(scheme, expected, repr(text))
        if scheme is not None:
            self.assertEqual(shown(scheme), text)
        return scheme is not None

    def test_signs_put_in_left_out_or_in_the_place_of_others(self):
        met = {True: 0, False: 0}
        for note in (SMALL, shown(BLIND), shown(made(3, 11, 1, 2)), shown(made(10, 2, 1, 1))):
            for at in range(len(note) + 1):
                met[self.assert_as_told(note[:at] + note[at + 1:])] += 1
                for sign in SIGNS:
                    met[self.assert_as_told(note[:at] + sign + note[at:])] += 1
                    met[self.assert_as_told(note[:at] + sign + note[at + 1:])] += 1
        self.assertGreater(met[True], 100)
        self.assertGreater(met[False], 1000)

    def test_two_neighbours_in_one_anothers_place(self):
        for note in (SMALL, shown(made(3, 11, 2, 2)), shown(made(10, 12, 2, 1))):
            for at in range(len(note) - 1):
                self.assert_as_told(note[:at] + note[at + 1] + note[at] + note[at + 2:])

    def test_beginnings_and_ends_of_notes(self):
        for note in (SMALL, shown(made(3, 3, 2, 2)), shown(made(10, 12, 6, 1))):
            for at in range(len(note)):
                self.assert_as_told(note[:at])
                self.assert_as_told(note[at:])

    def test_the_same_answer_twice(self):
        first = read(SMALL)
        self.assertEqual(read(SMALL), first)
        self.assertEqual(shown(first), SMALL)


if __name__ == "__main__":
    unittest.main()
