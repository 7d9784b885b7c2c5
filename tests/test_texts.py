"""Texts: point [17] of the document."""

import re
import unittest
from itertools import product as all_of
from random import Random

from grainyard import texts
from grainyard.errors import BadStep, BadText
from grainyard.heaps import Heap
from grainyard.texts import (
    heap_text,
    listing,
    pair_text,
    parse_heap,
    parse_pair,
    parse_sheet,
    parse_step,
    sheet_text,
    step_text,
)
from tests.cases import Case
from tests.models import is_step_by_words, random_runs, rows_of, some_sheets
from tests.samples import NUMBERS, ROOTS, SOME_ROOTS, TWENTY_DIGITS, WIDE_PAIRS, positive

GREAT = 10**5000 + 1
GREAT_TEXT = "1" + "0" * 4999 + "1"
SHEET = ((3, 0), (1, 1))
STEPS = {
    "saw 3 x 1+1r across at 1r times 2": ("saw", SHEET, "across", (0, 1), 2),
    "saw 3 x 1+1r along at -1+1r times 1": ("saw", SHEET, "along", (-1, 1), 1),
    "split 4-2r x -7r along into 7 times 12": ("split", ((4, -2), (0, -7)), "along", 7, 12),
    "split 4-2r x -7r across into 2 times 1": ("split", ((4, -2), (0, -7)), "across", 2, 1),
    "glue 3 x 1+1r and -2r x 1+1r across times 3": ("glue", SHEET, ((0, -2), (1, 1)), "across", 3),
    "glue 3 x 1+1r and 3 x 0 along times 1": ("glue", SHEET, ((3, 0), (0, 0)), "along", 1),
    "stack 2 of 1 x -1r along times 5": ("stack", ((1, 0), (0, -1)), "along", 2, 5),
    "stack 99 of 3 x 1+1r across times 1": ("stack", SHEET, "across", 99, 1),
    "turn 3 x 1+1r times 7": ("turn", SHEET, 7),
    "turn 0 x 0 times 99999999999999999999": ("turn", ((0, 0), (0, 0)), TWENTY_DIGITS),
}
NUMBER = "(?:0|-?[1-9][0-9]{0,19})"
SOME = "[1-9][0-9]{0,19}"
PAIR = f"(?:{NUMBER}|-?{SOME}r|-?{SOME}[+-]{SOME}r)"
SHEET_FORM = f"{PAIR} x {PAIR}"
FORMS = [
    f"(saw) ({SHEET_FORM}) (across|along) at ({PAIR}) times ({NUMBER})",
    f"(split) ({SHEET_FORM}) (across|along) into ({NUMBER}) times ({NUMBER})",
    f"(glue) ({SHEET_FORM}) and ({SHEET_FORM}) (across|along) times ({NUMBER})",
    f"(stack) ({NUMBER}) of ({SHEET_FORM}) (across|along) times ({NUMBER})",
    f"(turn) ({SHEET_FORM}) times ({NUMBER})",
]
WRONG_NUMBERS = ["", "-", "+1", "01", "-01", "00", "-0", "+0", " 1", "1 ", "1.0", "1e3", "1_0", "--1", "0x1", "1,000"]
WRONG_NUMBERS += ["x", "1\n", "\n1", "100000000000000000000", "-100000000000000000000", "9" * 21, GREAT_TEXT, "-" + GREAT_TEXT]
WRONG_NUMBERS += ["0" * 20, "0" * 21, "0" * 5000, "9" * 19999]
WRONG_PAIRS = WRONG_NUMBERS + ["r", "-r", "+r", "0r", "-0r", "+1r", "01r", "1 r", "1R", "1rr", "r1", "1r+1", "1+r", "1-r"]
WRONG_PAIRS += ["1+0r", "1-0r", "0+1r", "0-1r", "-0+1r", "1+-1r", "1--1r", "1++1r", "1-+1r", "+1+1r", "1+01r", "01+1r"]
WRONG_PAIRS += ["1 + 1r", "1+1", "1-1", "1r-1r", "1+1r+1r", "1+1r ", "1*1r", "1+100000000000000000000r", GREAT_TEXT + "r"]
WRONG_PAIRS += ["100000000000000000000+1r", f"1+{GREAT_TEXT}r", f"{GREAT_TEXT}-1r", "1+1 r", "-", "+", "1+1r\n", "--1+1r"]


def pair_by_words(text):
    """The pair that a text writes by [17], None for no pair."""
    if re.fullmatch(PAIR, text) is None:
        return None
    first, second = re.fullmatch(r"(-?\d+(?![\dr]))?([+-]?\d+r)?", text).groups()
    return int(first or 0), int((second or "0r")[:-1])


def sheet_by_words(text):
    parts = text.split(" x ")
    found = [pair_by_words(part) for part in parts]
    return None if len(parts) != 2 or None in found else tuple(found)


def step_by_words(text):
    for form in FORMS:
        match = re.fullmatch(form, text)
        if match:
            items = [item_by_words(part) for part in match.groups()]
            if items[0] == "stack":
                items = [items[0], items[2], items[3], items[1], items[4]]
            if items[0] == "saw" and isinstance(items[3], int):
                items[3] = (items[3], 0)
            return tuple(items) if is_step_by_words(tuple(items)) else None
    return None


def item_by_words(text):
    if " x " in text:
        return sheet_by_words(text)
    if re.fullmatch(NUMBER, text):
        return int(text)
    return text if text.isalpha() and len(text) > 1 else pair_by_words(text)


def heap_by_words(text):
    """The root and the rows of the text of a heap, or the index of [17]'s BadText."""
    lines = text.split("\n")
    match = re.fullmatch(f"root ({NUMBER})", lines[0])
    if len(lines) == 1 or not match or int(match[1]) not in ROOTS:
        return 0
    root, rows = int(match[1]), []
    for at, line in enumerate(lines[1:-1], start=1):
        match = re.fullmatch(f"({SOME}) ({SHEET_FORM})", line)
        sheet = match and sheet_by_words(match[2])
        if not match or not all(positive(pair, root) for pair in sheet) or (rows and rows[-1][0] >= sheet):
            return at
        rows.append((sheet, int(match[1])))
    return len(lines) - 1 if lines[-1] else (root, rows)


def changed_texts(source, text, many):
    """Texts with a few characters removed, added, changed or exchanged."""
    for _ in range(many):
        found = text
        for _ in range(source.choice([1, 1, 2])):
            at = source.randint(0, len(found))
            sign = source.choice("0123456789+-rx  \natisoR")
            found = source.choice([found[:at] + found[at + 1 :], found[:at] + sign + found[at:]])
            if source.random() < 0.3:
                found = found[:at] + sign + found[at + 1 :]
        yield found


class ForTexts(Case):
    def bad(self, parse, text, at=0):
        self.assertEqual(self.fails(BadText, parse, text), {"at": at}, text[:90])


class Interface(ForTexts):
    def test_example(self):
        heap = Heap(2, [(((300, 0), (0, 7)), 12)])
        self.assertEqual(heap_text(heap), "root 2\n12 300 x 7r\n")
        self.assertEqual(listing(heap), "      12  300             7r                     2,969\n")
        self.assertEqual(parse_pair("-4+3r"), (-4, 3))
        self.assertEqual(step_text(("stack", ((1, 0), (0, -1)), "along", 2, 5)), "stack 2 of 1 x -1r along times 5")

    def test_defined_there(self):
        names = "pair_text sheet_text heap_text step_text parse_pair parse_sheet parse_step parse_heap listing"
        for name in names.split():
            self.assertEqual(getattr(texts, name).__module__, "grainyard.texts")

    def test_arguments_by_name(self):
        heap = Heap.of(2, SHEET)
        step = STEPS["turn 3 x 1+1r times 7"]
        self.assertEqual(pair_text(pair=(1, 1)), "1+1r")
        self.assertEqual(sheet_text(sheet=SHEET), "3 x 1+1r")
        self.assertEqual(heap_text(heap=heap), heap_text(heap))
        self.assertEqual(step_text(step=step), step_text(step))
        self.assertEqual(listing(heap=heap), listing(heap))
        self.assertEqual(parse_pair(text="1+1r"), (1, 1))
        self.assertEqual(parse_sheet(text="3 x 1+1r"), SHEET)
        self.assertEqual(parse_step(text="turn 3 x 1+1r times 7"), step)
        self.assertEqual(parse_heap(text=heap_text(heap)), heap)


class Pairs(ForTexts):
    def test_examples_of_the_document(self):
        for text, pair in {"7": (7, 0), "-2r": (0, -2), "3+1r": (3, 1), "-4+3r": (-4, 3)}.items():
            self.assertEqual(pair_text(pair), text)
            self.assertEqual(parse_pair(text), pair)

    def test_all_kinds(self):
        expected = {(0, 0): "0", (0, 1): "1r", (-1, 0): "-1", (5, -1): "5-1r", (-5, -12): "-5-12r", (0, 9): "9r"}
        for pair, text in expected.items():
            self.assertEqual((pair_text(pair), parse_pair(text)), (text, pair))

    def test_all_sizes_and_signs(self):
        for pair in WIDE_PAIRS:
            a, b = pair
            text = str(a) if b == 0 else f"{b}r" if a == 0 else f"{a}{b:+d}r"
            self.assertEqual(pair_text(pair), text)
            if max(abs(a), abs(b)) <= TWENTY_DIGITS:
                self.assertEqual(parse_pair(text), pair)
            else:
                self.bad(parse_pair, text)

    def test_numbers_with_more_than_4300_digits(self):
        self.assertEqual(pair_text((GREAT, 0)), GREAT_TEXT)
        self.assertEqual(pair_text((0, -GREAT)), f"-{GREAT_TEXT}r")
        self.assertEqual(pair_text((-GREAT, GREAT)), f"-{GREAT_TEXT}+{GREAT_TEXT}r")
        self.assertEqual(pair_text((1, -GREAT)), f"1-{GREAT_TEXT}r")

    def test_20_digits(self):
        for digits in ["9" * 20, "1" + "0" * 19]:
            number = int(digits)
            self.assertEqual(parse_pair(digits), (number, 0))
            self.assertEqual(parse_pair(f"-{digits}"), (-number, 0))
            self.assertEqual(parse_pair(f"-{digits}r"), (0, -number))
            self.assertEqual(parse_pair(f"-{digits}+{digits}r"), (-number, number))
            self.assertEqual(parse_pair(f"{digits}-{digits}r"), (number, -number))
            for text in [f"{digits}0", f"{digits}0r", f"1+{digits}0r", f"{digits}0-1r", f"-{digits}1", f"0{digits}"]:
                self.bad(parse_pair, text)

    def test_wrong_texts(self):
        for text in WRONG_PAIRS:
            self.assertIsNone(pair_by_words(text))
            self.bad(parse_pair, text)

    def test_changed_texts(self):
        source = Random("pairs")
        found = {True: 0, False: 0}
        for pair in [(7, 0), (0, -2), (30, 10), (-4, 3), (120, -45), (0, 0), (10**19, -(10**19))]:
            for text in changed_texts(source, pair_text(pair), 800):
                expected = pair_by_words(text)
                found[expected is None] += 1
                if expected is None:
                    self.bad(parse_pair, text)
                else:
                    self.assertEqual(parse_pair(text), expected)
        self.assertGreater(min(found.values()), 500)

    def test_all_short_texts(self):
        for size in [1, 2, 3, 4]:
            for letters in all_of("012r+-", repeat=size):
                text = "".join(letters)
                expected = pair_by_words(text)
                if expected is None:
                    self.bad(parse_pair, text)
                else:
                    self.assertEqual(parse_pair(text), expected)


class Sheets(ForTexts):
    def test_texts(self):
        for root in SOME_ROOTS:
            for sheet in some_sheets(root):
                text = f"{pair_text(sheet[0])} x {pair_text(sheet[1])}"
                self.assertEqual(sheet_text(sheet), text)
                if max(abs(number) for pair in sheet for number in pair) <= TWENTY_DIGITS:
                    self.assertEqual(parse_sheet(text), sheet)

    def test_any_two_pairs(self):
        for sheet in [((0, 0), (0, 0)), ((-1, 0), (0, -3)), ((-7, -5), (1, -1))]:
            self.assertEqual(parse_sheet(sheet_text(sheet)), sheet)
        self.assertEqual(sheet_text(((0, 0), (-1, -2))), "0 x -1-2r")
        self.assertEqual(sheet_text(((GREAT, 0), (0, GREAT))), f"{GREAT_TEXT} x {GREAT_TEXT}r")

    def test_wrong_texts(self):
        wrong = ["", "1", " x ", "1 x ", " x 1", "1 x 1 x 1", "1 x  1", "1  x 1", "1x1", "1 x1", "1x 1", "1 X 1", "1 * 1"]
        wrong += [" 1 x 1", "1 x 1 ", "1 x 1\n", "1\nx 1", "1 x x 1", "x", "1 and 1"]
        for pair in WRONG_PAIRS:
            wrong += [f"{pair} x 1", f"1 x {pair}"]
        for text in wrong:
            self.bad(parse_sheet, text)

    def test_changed_texts(self):
        source = Random("sheets")
        for text in changed_texts(source, "12-3r x -4+30r", 3000):
            expected = sheet_by_words(text)
            if expected is None:
                self.bad(parse_sheet, text)
            else:
                self.assertEqual(parse_sheet(text), expected)


class Steps(ForTexts):
    def test_texts_of_each_kind(self):
        for text, step in STEPS.items():
            self.assertEqual(step_text(step), text)
            self.assertEqual(parse_step(text), step)
            self.assertEqual(step_by_words(text), step)

    def test_steps_of_runs(self):
        for turning in [False, True]:
            for _, _, steps, _ in random_runs(SOME_ROOTS, turning):
                for step in steps:
                    text = step_text(step)
                    if re.search("[0-9]{21}", text):
                        self.bad(parse_step, text)
                    else:
                        self.assertEqual(parse_step(text), step)

    def test_great_numbers(self):
        self.assertEqual(step_text(("turn", SHEET, GREAT)), f"turn 3 x 1+1r times {GREAT_TEXT}")
        self.assertEqual(step_text(("stack", SHEET, "along", GREAT, 1)), f"stack {GREAT_TEXT} of 3 x 1+1r along times 1")
        step = ("split", ((GREAT * 2, 0), (1, 0)), "across", 2, 10**30)
        self.assertEqual(step_text(step), f"split 2{'0' * 4999}2 x 1 across into 2 times 1{'0' * 30}")
        self.bad(parse_step, step_text(step))

    def test_no_steps(self):
        wrong = [(), ("turn",), ("turn", SHEET, 0), ("weld", SHEET, 1), ("split", SHEET, "along", 2, 1), (SHEET, "turn", 1)]
        wrong += [("glue", SHEET, ((1, 0), (1, 0)), "across", 1), ("stack", SHEET, "along", 1, 1), ("saw", SHEET)]
        for step in wrong:
            self.assertEqual(self.fails(BadStep, step_text, step), {"at": 0})

    def test_texts_of_no_steps(self):
        wrong = ["", " ", "turn", "saw", "weld 3 x 1 times 1", "turn 3 x 1 times 0", "turn 3 x 1 times -1", "turn 3 times 1"]
        wrong += ["split 3 x 1 across into 2 times 1", "split 4 x 1 across into 1 times 1", "stack 1 of 3 x 1 along times 1"]
        wrong += ["glue 3 x 1 and 3 x 2 across times 1", "glue 3 x 1 and 4 x 1 along times 1", "Turn 3 x 1 times 1"]
        wrong += ["saw 3 x 1 side at 1 times 1", "saw 3 x 1 across at 1 1 times 1", "turn 3 x 1 times 1 ", " turn 3 x 1 times 1"]
        wrong += ["turn  3 x 1 times 1", "turn 3 x 1  times 1", "turn 3 x 1 times  1", "turn 3 x 1 times 1\n", "turn 3 x 1 time 1"]
        wrong += ["turn 3 x 1 times 01", "turn 3 x 1 times +1", "turn 3 x 1 times 1r", "turn 3 x 1 times 100000000000000000000"]
        wrong += ["saw 3 x 1 across at 1 for 1", "saw 3 x 1 across by 1 times 1", "stack 2 off 3 x 1 along times 1"]
        wrong += ["split 4 x 1 across in 2 times 1", "glue 3 x 1 or 3 x 1 along times 1", f"turn 3 x 1 times {GREAT_TEXT}"]
        wrong += ["turn 3 y 1 times 1", "stack 3 x 1 along 2 times 1", "saw 3 x 1 across at 1 times 1 times 1", "x" * 20000]
        for text in wrong:
            self.assertIsNone(step_by_words(text))
            self.bad(parse_step, text)

    def test_each_word_removed_changed_and_repeated(self):
        for text in STEPS:
            words = text.split(" ")
            for at, word in enumerate(words):
                for other in [[], [word, word], ["1"], ["0"], ["at"], ["across"], [""], [word.upper()], ["x"], ["1r"]]:
                    changed = " ".join(words[:at] + other + words[at + 1 :])
                    expected = step_by_words(changed)
                    if expected is None:
                        self.bad(parse_step, changed)
                    else:
                        self.assertEqual(parse_step(changed), expected)

    def test_changed_texts(self):
        source = Random("steps")
        found = {True: 0, False: 0}
        for text in STEPS:
            for changed in changed_texts(source, text, 400):
                expected = step_by_words(changed)
                found[expected is None] += 1
                if expected is None:
                    self.bad(parse_step, changed)
                else:
                    self.assertEqual(parse_step(changed), expected)
        self.assertGreater(min(found.values()), 100)


class Heaps(ForTexts):
    def test_there_and_back(self):
        for root in ROOTS:
            for many in [0, 1, 2, 7]:
                heap = Heap(root, [(((at + 1, at), (3, -1 if root < 8 else 0)), at + 1) for at in range(many)])
                text = heap_text(heap)
                lines = [f"root {root}"] + [f"{count} {sheet_text(sheet)}" for sheet, count in heap.rows()]
                self.assertEqual(text, "".join(f"{line}\n" for line in lines))
                self.assertEqual(parse_heap(text), heap)

    def test_heaps_of_runs(self):
        for root, first, _, counters in random_runs(SOME_ROOTS, True):
            for counter in [first, counters[-1]]:
                heap = Heap(root, rows_of(counter))
                text = heap_text(heap)
                if re.search("[0-9]{21}", text):
                    lines = text.split("\n")
                    at = next(at for at, line in enumerate(lines) if re.search("[0-9]{21}", line))
                    self.bad(parse_heap, text, at)
                else:
                    self.assertEqual(parse_heap(text), heap)

    def test_great_numbers(self):
        heap = Heap(2, [(((GREAT, 0), (1, 0)), GREAT), (SHEET, 1)])
        self.assertEqual(heap_text(heap), f"root 2\n1 3 x 1+1r\n{GREAT_TEXT} {GREAT_TEXT} x 1\n")
        self.bad(parse_heap, heap_text(heap), 2)
        self.bad(parse_heap, f"root 2\n{GREAT_TEXT} 1 x 1\n", 1)
        self.bad(parse_heap, f"root {GREAT_TEXT}\n", 0)

    def test_no_line(self):
        for text in ["", "root 2", "x", " ", "root 2 ", "1 3 x 1"]:
            self.bad(parse_heap, text, 0)

    def test_wrong_roots(self):
        for word in ["0", "1", "4", "49", "81", "100", "-2", "02", "2r", "", "+2", "2 ", " 2", "two", "2.0", "101"]:
            for rest in ["", "1 3 x 1\n", "1 3 x 1", "x"]:
                self.bad(parse_heap, f"root {word}\n{rest}", 0)
        for line in ["", "2", "Root 2", "root  2", " root 2", "root2", "root", "roots 2", "1 3 x 1", "root 2 2"]:
            self.bad(parse_heap, f"{line}\n", 0)
            self.bad(parse_heap, f"{line}\n1 3 x 1\n", 0)

    def test_wrong_rows_at_any_place(self):
        good = ["1 1 x 1", "20 1 x 2", "3 2-1r x 7r", "99999999999999999999 8r x 1"]
        good = sorted(good, key=lambda line: sheet_by_words(line.split(" ", 1)[1]))
        self.assertEqual(len(parse_heap("root 2\n" + "".join(f"{line}\n" for line in good))), 4)
        wrong = ["", " ", "root 2", "0 1 x 3", "-1 1 x 3", "01 1 x 3", "+1 1 x 3", "1r 1 x 3", "1 1 x -3", "1 0 x 3"]
        wrong += ["1 1 x 1-1r", "1 1 x 3 ", " 1 1 x 3", "1  1 x 3", "1 1x3", "1 1 x", "1", "1 1", "x 1 x 3", "1 x 3", "1 1 x 0"]
        wrong += ["100000000000000000000 1 x 3", "1 1 x 100000000000000000000", "1 1 x 3 x 1", "one 1 x 3", "1 1 X 3"]
        for line, place in all_of(wrong, range(5)):
            lines = ["root 2", *good[:place], line, *good[place:]]
            for more in ["", "x", "1 1 x 1"]:
                self.bad(parse_heap, "".join(f"{each}\n" for each in lines) + more, place + 1)

    def test_rows_out_of_order_or_twice(self):
        for text, at in {
            "root 2\n1 2 x 1\n1 1 x 1\n": 2,
            "root 2\n1 1 x 1\n1 1 x 1\n": 2,
            "root 2\n2 1 x 1\n1 1 x 1\n": 2,
            "root 2\n1 1 x 1\n1 2 x 1\n1 1 x 2\n1 9 x 9\n": 3,
            "root 2\n1 1 x 2\n1 1 x 10\n1 1 x 1\n": 3,
            "root 2\n1 5-1r x 1\n1 1r x 1\n": 2,
        }.items():
            self.bad(parse_heap, text, at)
        self.assertEqual(len(parse_heap("root 2\n1 1r x 1\n1 1 x 2\n1 1 x 10\n1 2-1r x 1\n")), 4)

    def test_order_goes_by_the_sheets_not_by_the_counts(self):
        heap = parse_heap("root 2\n9 1 x 1\n1 2 x 1\n5 3 x 1\n")
        self.assertEqual([count for _, count in heap.rows()], [9, 1, 5])

    def test_a_missing_line_feed(self):
        for text, at in {"root 2": 0, "root 2\n1 1 x 1": 1, "root 2\n1 1 x 1\nx": 2, "root 2\n1 1 x 1\n ": 2}.items():
            self.bad(parse_heap, text, at)
        self.bad(parse_heap, "root 2\n\n", 1)
        self.bad(parse_heap, "\nroot 2\n", 0)

    def test_many_rows(self):
        lines = [f"1 {at} x 1\n" for at in range(1, 1500)]
        self.assertEqual(len(parse_heap("root 2\n" + "".join(lines))), 1499)
        self.bad(parse_heap, "root 2\n" + "".join(lines[::-1]), 2)

    def test_changed_texts(self):
        source = Random("heaps")
        found = {True: 0, False: 0}
        text = "root 13\n3 -3+1r x 2\n12 1r x 4-1r\n7 1 x 2r\n1 1 x 1\n40 21+3r x 10\n"
        for changed in changed_texts(source, text, 5000):
            expected = heap_by_words(changed)
            found[isinstance(expected, int)] += 1
            if isinstance(expected, int):
                self.bad(parse_heap, changed, expected)
            else:
                self.assertEqual(parse_heap(changed), Heap(*expected))
                self.assertEqual(heap_text(parse_heap(changed)), changed)
        self.assertGreater(min(found.values()), 500)


class Listings(ForTexts):
    def test_widths(self):
        heap = Heap(2, [(((1, 0), (0, 1)), 1), (((12345, -67), (300, 4)), 98765432)])
        lines = listing(heap).split("\n")
        self.assertEqual(lines[0], "       1  1               1r                         1")
        self.assertEqual(lines[1], "98765432  12345-67r       300+4r             3,744,372")
        self.assertEqual(lines[2:], [""])
        self.assertEqual({len(line) for line in lines[:2]}, {8 + 2 + 14 + 2 + 14 + 2 + 12})

    def test_by_the_words(self):
        for root, first, _, counters in random_runs([2, 61], True):
            heap = Heap(root, rows_of(counters[-1]))
            expected = ""
            for (across, along), count in heap.rows():
                (a, b), (c, e) = across, along
                area = self.floor(a * c + root * b * e, a * e + b * c, root)
                expected += f"{count:>8}  {pair_text(across):<14}  {pair_text(along):<14}  {area:>12,}\n"
            self.assertEqual(listing(heap), expected)

    def floor(self, a, b, root):
        """The greatest integer that is at most a + b * r, by trying."""
        low, high = 0, 1
        while not positive((high - a, -b), root):
            high *= 2
        while high - low > 1:
            middle = (low + high) // 2
            low, high = (low, middle) if positive((middle - a, -b), root) else (middle, high)
        return low

    def test_groups_of_three_digits(self):
        for number in [1, 12, 999, 1000, 99999, 100000, 999999, 1000000, 123456789, 10**11, 10**12, TWENTY_DIGITS, 10**60]:
            line = listing(Heap.of(2, ((number, 0), (1, 0))))
            self.assertEqual(line[28 + max(14, len(str(number))) :], f"{number:>12,}\n")

    def test_areas_below_1(self):
        self.assertEqual(listing(Heap.of(2, ((3, -2), (-7, 5))))[-13:], f"{0:>12}\n")

    def test_long_texts_are_not_cut(self):
        heap = Heap(2, [(((10**15, 1), (1, 10**15)), 10**9)])
        area = self.floor(10**15 + 2 * 10**15, 10**30 + 1, 2)
        expected = f"1000000000  1000000000000000+1r  1+1000000000000000r  {area:,}\n"
        self.assertEqual(listing(heap), expected)
        self.assertEqual(listing(Heap(2, [(((1, 0), (1, 0)), 123456789)]))[:12], "123456789  1")

    def test_great_numbers(self):
        grouped = "100," + "000," * 1665 + "001"
        self.assertEqual(grouped.replace(",", ""), GREAT_TEXT)
        found = listing(Heap(2, [(((GREAT, 0), (1, 0)), GREAT)]))
        self.assertEqual(found, f"{GREAT_TEXT}  {GREAT_TEXT}  1               {grouped}\n")

    def test_the_empty_heap(self):
        for root in ROOTS:
            self.assertEqual(listing(Heap(root)), "")
            self.assertEqual(heap_text(Heap(root)), f"root {root}\n")
            self.assertEqual(parse_heap(f"root {root}\n"), Heap(root))

    def test_numbers(self):
        for number in [number for number in NUMBERS if number > 0]:
            self.assertEqual(listing(Heap(2, [(((1, 0), (1, 0)), number)]))[: max(8, len(str(number)))], f"{number:>8}")


if __name__ == "__main__":
    unittest.main()
