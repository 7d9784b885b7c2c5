"""The console: point [18] of the document."""

import unittest
from itertools import product as all_of

from grainyard import console as console_module
from grainyard.console import Console
from grainyard.fewest import fewest_sheets
from grainyard.heaps import Heap
from grainyard.linking import linked
from grainyard.squares import squares_of
from grainyard.tallies import Journal
from grainyard.texts import step_text
from grainyard.yards import Yard
from tests.cases import UNITS, Case, unit_heap
from tests.samples import TWENTY_DIGITS
from tests.test_yards import TWELVE, state_of

SHEET = ((3, 0), (1, 1))
QUESTIONS = ["names", "orders", "show oak", "table oak", "few oak", "squares oak", "link oak ash"]
NO_NUMBERS = ["", "x", "01", "-0", "+1", "1r", "1.0", "100000000000000000000", "9" * 5000]
NO_PAIRS = ["", "x", "01", "-0", "0r", "1+0r", "0+1r", "r", "1+r", "100000000000000000000", "9" * 5000 + "r", "(1,0)"]


def filled(**named):
    """A console whose yard has two heaps and an order."""
    console = Console(Yard(2, **named))
    for line in ["bring oak 2 3 x 1+1r", "bring ash 1 1r x 2", "order door 1 1 x 1"]:
        assert console.run(line) == "ok"
    return console


class ForConsoles(Case):
    def stays(self, console, line, answer):
        """Check the answer to a line that changes nothing."""
        before, many = state_of(console.yard()), len(console)
        self.assertEqual(console.run(line), answer, line[:90])
        self.assertEqual(state_of(console.yard()), before)
        self.assertEqual(len(console), many + 1)


class Interface(ForConsoles):
    def test_example(self):
        console = Console(Yard(2))
        lines = ["bring oak 2 3 x 1+1r", "do oak turn 3 x 1+1r times 1", "show oak", "table oak", "few oak"]
        lines += ["squares oak", "show ash", "undo now"]
        expected = ["ok", "error BadStep", "2 3 x 1+1r", "6 6 0 0", "1", "no", "error NoName", "unknown"]
        self.assertEqual([console.run(line) for line in lines], expected)

    def test_defined_there(self):
        self.assertEqual(console_module.Console.__module__, "grainyard.console")
        for name in ["yard", "run", "__len__"]:
            self.assertIn(name, vars(Console))

    def test_arguments_by_name(self):
        console = Console(yard=Yard(2))
        self.assertEqual(console.run(line="names"), "none")

    def test_this_very_yard(self):
        yard = Yard(2)
        console, other = Console(yard), Console(yard)
        self.assertIs(console.yard(), yard)
        console.run("bring oak 1 1 x 1")
        self.assertEqual(yard.heap("oak"), Heap.of(2, UNITS[0]))
        yard.do(("bring", "ash", UNITS[0], 1))
        self.assertEqual((console.run("names"), other.run("names")), ("ash oak", "ash oak"))

    def test_len_counts_each_line(self):
        console = Console(Yard(2))
        self.assertEqual(len(console), 0)
        for at, line in enumerate(["names", "", "weld", "show oak", "undo", " ", "bring oak 1 1 x 1", "names"]):
            console.run(line)
            self.assertEqual(len(console), at + 1)


class Deeds(ForConsoles):
    def test_bring_and_sell(self):
        console = filled()
        self.assertEqual(console.run("bring oak 5 3 x 1+1r"), "ok")
        self.assertEqual(console.run("bring oak 99999999999999999999 2-1r x 1r"), "ok")
        self.assertEqual(console.yard().heap("oak").rows(), [(((2, -1), (0, 1)), TWENTY_DIGITS), (SHEET, 7)])
        self.assertEqual(console.run("sell oak 7 3 x 1+1r"), "ok")
        self.assertEqual(console.run("show oak"), "99999999999999999999 2-1r x 1r")
        self.assertEqual(console.yard().history, (6, 0))

    def test_errors_of_bring_and_sell(self):
        console = filled()
        for line, word in {
            "bring Oak 1 1 x 1": "BadName",
            "bring oaktreees 1 1 x 1": "BadName",
            "bring 7 0 0 x 0": "BadName",
            "bring oak 1 0 x 1": "BadSheet",
            "bring oak 0 1 x 1-1r": "BadSheet",
            "bring oak 0 1 x 1": "BadCount",
            "bring oak -3 1 x 1": "BadCount",
            "sell elm 1 1 x 1": "NoName",
            "sell Elm! 0 0 x 0": "NoName",
            "sell oak 0 0 x 0": "BadSheet",
            "sell oak -1 1 x 1": "BadCount",
            "sell oak 1 1 x 1": "NoSheet",
            "sell oak 3 3 x 1+1r": "NoSheet",
        }.items():
            self.stays(console, line, f"error {word}")

    def test_full(self):
        console = Console(Yard(2))
        for name in TWELVE:
            self.assertEqual(console.run(f"bring {name} 1 1 x 1"), "ok")
            self.assertEqual(console.run(f"order {name} 1 1 x 1"), "ok")
        self.stays(console, "bring oak 1 1 x 1", "error Full")
        self.stays(console, "order oak 1 1 x 1", "error Full")
        self.assertEqual(console.run("names"), " ".join(TWELVE))
        self.assertEqual(console.run("orders"), " ".join(TWELVE))

    def test_do(self):
        steps = [("saw", SHEET, "across", (0, 1), 2), ("glue", ((0, 1), (1, 1)), ((0, 1), (1, 1)), "along", 1)]
        steps += [("split", ((0, 1), (2, 2)), "along", 2, 1), ("stack", ((0, 1), (1, 1)), "across", 2, 1)]
        steps += [("turn", ((0, 2), (1, 1)), 1)]
        console, yard, tally = filled(turning=True), filled(turning=True).yard(), Journal()
        console.yard().attach(tally)
        for step in steps:
            self.assertEqual(console.run(f"do oak {step_text(step)}"), "ok")
            yard.do(("step", "oak", step))
            self.assertEqual(console.yard(), yard)
        self.assertEqual(tally.told(), steps)

    def test_errors_of_do(self):
        console = filled()
        self.stays(console, "do elm turn 1 x 1 times 1", "error NoName")
        self.stays(console, "do oak turn 3 x 1+1r times 1", "error BadStep")
        self.stays(console, "do oak saw 3 x 1+1r across at 3 times 1", "error BadStep")
        self.stays(console, "do oak stack 3 of 3 x 1+1r along times 1", "error NoSheet")

    def test_steps_that_cannot_be_read(self):
        console = filled()
        for step in ["turn", "turn 3 x 1+1r", "turn 3 x 1+1r times 0", "weld 3 x 1+1r times 1", "", "turn 3 x 1+1r times 01"]:
            self.stays(console, f"do oak {step}", "unknown")
            self.stays(console, f"do elm {step}", "unknown")
        self.stays(console, "do oak split 3 x 1+1r across into 2 times 1", "unknown")
        self.stays(console, f"do oak turn 3 x 1+1r times {'9' * 5000}", "unknown")
        self.stays(console, "do", "unknown")
        self.stays(console, "do oak", "unknown")

    def test_orders(self):
        console = filled()
        self.assertEqual(console.run("order table 3 1r x 2"), "ok")
        self.assertEqual(console.yard().order("table"), Heap(2, [(((0, 1), (2, 0)), 3)]))
        self.assertEqual(console.run("orders"), "door table")
        self.assertEqual(console.run("drop table"), "ok")
        self.assertEqual(console.run("fill door oak"), "ok")
        self.assertEqual(console.run("orders"), "none")
        self.assertLessEqual(console.yard().heap("oak").many, 2)

    def test_errors_of_orders(self):
        console = filled()
        console.run("order great 99 9 x 9")
        for line, word in {
            "order Door 1 1 x 1": "BadName",
            "order door 0 0 x 0": "Taken",
            "order table 0 1 x 1": "BadRow",
            "order table 1 1 x 0": "BadRow",
            "order table -1 0 x 0": "BadRow",
            "fill table oak": "NoOrder",
            "fill oak elm": "NoOrder",
            "fill door elm": "NoName",
            "fill great oak": "NotEnough",
            "drop table": "NoOrder",
            "drop oak": "NoOrder",
            "drop !": "NoOrder",
        }.items():
            self.stays(console, line, f"error {word}")

    def test_undo_and_redo(self):
        console = filled()
        states = [state_of(console.yard())[:2]]
        self.assertEqual(console.run("sell oak 1 3 x 1+1r"), "ok")
        states.append(state_of(console.yard())[:2])
        self.assertEqual(console.run("undo"), "ok")
        self.assertEqual(state_of(console.yard())[:2], states[0])
        self.assertEqual(console.run("redo"), "ok")
        self.assertEqual(state_of(console.yard())[:2], states[1])
        self.stays(console, "redo", "error NothingLeft")
        self.stays(Console(Yard(2)), "undo", "error NothingLeft")

    def test_lines_that_raise_an_error_keep_redo(self):
        console = filled()
        console.run("undo")
        for line in ["sell elm 1 1 x 1", "weld", "names", "drop door"]:
            console.run(line)
        self.assertEqual(console.yard().history, (2, 1))


class Answers(ForConsoles):
    def test_names(self):
        self.stays(Console(Yard(2)), "names", "none")
        self.stays(Console(Yard(2)), "orders", "none")
        self.stays(filled(), "names", "ash oak")
        self.stays(filled(), "orders", "door")

    def test_show(self):
        console = filled()
        console.run("bring oak 12 -1+1r x 7r")
        console.run("bring oak 1 3 x 1")
        self.stays(console, "show oak", "12 -1+1r x 7r; 1 3 x 1; 2 3 x 1+1r")
        console.run("sell ash 1 1r x 2")
        self.stays(console, "show ash", "empty")
        self.stays(console, "names", "ash oak")
        for name in ["elm", "door", "Oak", "!"]:
            self.stays(console, f"show {name}", "error NoName")

    def test_table(self):
        console = filled()
        self.stays(console, "table oak", "6 6 0 0")
        self.stays(console, "table ash", "0 0 2 0")
        console.run("bring elm 2 3-2r x -7+5r")
        self.stays(console, "table elm", "-42 30 28 -20")
        self.stays(console, "table door", "error NoName")

    def test_great_numbers(self):
        yard, sheet = Yard(2), ((1, 0), (1, 0))
        yard.do(("bring", "oak", sheet, TWENTY_DIGITS))
        for _ in range(230):
            count = yard.heap("oak").count(sheet)
            yard.do(("bring", "oak", sheet, count * TWENTY_DIGITS))
        console, count = Console(yard), yard.heap("oak").count(sheet)
        self.assertGreater(count, 10**4400)
        shown, table = console.run("show oak"), console.run("table oak")
        self.assertEqual(shown[-6:] + table[-6:], " 1 x 1 0 0 0")
        self.assertEqual(shown[:-6], table[:-6])
        self.assertEqual(len(shown), 231 * 20 + 6)
        self.assertEqual(console.run("few oak"), "1")

    def test_few_squares_and_link_by_the_turning_of_the_yard(self):
        for turning in [False, True]:
            console = Console(Yard(2, turning=turning))
            counts = [(1, 0, 0, 1), (0, 1, 1, 0), (0, 2, 0, 0), (1, 1, 1, 1), (2, 0, 2, 1), (1, 3, 3, 1), (0, 0, 2, 0)]
            heaps = {name: unit_heap(2, *each) for name, each in zip("abcdefg", counts)}
            for name, heap in heaps.items():
                console.yard().do_all([("bring", name, sheet, count) for sheet, count in heap.rows()])
            for name, heap in heaps.items():
                self.stays(console, f"few {name}", str(fewest_sheets(heap, turning=turning)))
                self.stays(console, f"squares {name}", self.squares(heap, turning))
            for one, other in all_of(heaps, repeat=2):
                expected = "yes" if linked(heaps[one], heaps[other], turning=turning) else "no"
                self.stays(console, f"link {one} {other}", expected)
            self.assertEqual([console.run("few b"), console.run("link b c")], ["1", "yes"] if turning else ["2", "no"])
            self.assertEqual(console.run("squares e"), "yes" if turning else "no")

    def squares(self, heap, turning):
        try:
            squares_of(heap, turning=turning)
        except ValueError:
            return "no"
        return "yes"

    def test_empty_heaps(self):
        console = filled()
        console.run("sell oak 2 3 x 1+1r")
        answers = [console.run(f"{word} oak") for word in ["show", "table", "few", "squares"]]
        self.assertEqual(answers, ["empty", "0 0 0 0", "0", "yes"])
        self.assertEqual([console.run("link oak oak"), console.run("link oak ash")], ["yes", "no"])

    def test_names_that_are_missing(self):
        console = filled()
        for word in ["show", "table", "few", "squares"]:
            for name in ["elm", "door", "OAK", "1", "x" * 5000]:
                self.stays(console, f"{word} {name}", "error NoName")
        for names in ["elm oak", "oak elm", "elm !", "door door"]:
            self.stays(console, f"link {names}", "error NoName")

    def test_questions_change_nothing(self):
        console = filled()
        console.run("undo")
        for line in QUESTIONS * 2:
            self.stays(console, line, console.run(line))


GOOD = QUESTIONS + ["bring oak 1 3 x 1+1r", "sell oak 1 3 x 1+1r", "order table 1 1 x 1", "fill door oak", "drop door"]
GOOD += ["undo", "redo", "do oak split 3 x 1+1r across into 3 times 1"]


class Unknown(ForConsoles):
    def test_spaces(self):
        for line in GOOD:
            words = line.split(" ")
            wrong = [f" {line}", f"{line} ", f" {line} ", f"  {line}", f"{line}  "]
            wrong += [" ".join(words[:at]) + "  " + " ".join(words[at:]) for at in range(1, len(words))]
            for text in wrong:
                self.stays(filled(), text, "unknown")
        for text in ["", " ", "  ", "   "]:
            self.stays(filled(), text, "unknown")

    def test_too_few_and_too_many_words(self):
        for line in GOOD:
            words = line.split(" ")
            for more in ["x", "oak", "1", "times 1"]:
                self.stays(filled(), f"{line} {more}", "unknown")
            for at in range(1, len(words)):
                self.stays(filled(), " ".join(words[:at]), "unknown")

    def test_other_words(self):
        wrong = ["weld", "Names", "NAMES", "name", "order", "bring", "move oak ash 1 3 x 1+1r", "step oak turn 3 x 1+1r times 1"]
        wrong += ["names\n", "\nnames", "names\nnames", "undo\n", "heap oak", "twin", "depth 3", "show", "listing oak", "x", "?"]
        wrong += ["sheets oak", "orders door", "undo 1", "redo redo", "link oak", "link oak ash elm", "squares oak oak", "none"]
        wrong += ["x" * 20000, " " * 20000, "unknown", "ok", "error", "yard", "run names", "do"]
        for line in wrong:
            self.stays(filled(), line, "unknown")

    def test_counts_and_sheets_that_are_not_written_so(self):
        for word, name in all_of(["bring", "sell", "order"], ["oak", "Oak", "table"]):
            for count in NO_NUMBERS:
                self.stays(filled(), f"{word} {name} {count} 3 x 1+1r", "unknown")
            for pair in NO_PAIRS:
                self.stays(filled(), f"{word} {name} 1 {pair} x 1", "unknown")
                self.stays(filled(), f"{word} {name} 1 1 x {pair}", "unknown")
            for sheet in ["3 X 1", "3x1", "3 * 1", "3 x 1 x 1", "3 1 x", "x 3 1"]:
                self.stays(filled(), f"{word} {name} 1 {sheet}", "unknown")

    def test_any_word_may_be_a_name(self):
        console = filled()
        for word in ["x", "times", "1", "-", "~!", "bring", "oak;", "a\nb", "1r", "A" * 5000]:
            self.stays(console, f"bring {word} 0 1 x 1", "error BadCount" if word in ("x", "times", "bring") else "error BadName")
            self.stays(console, f"sell {word} 1 1 x 1", "error NoName")
            self.stays(console, f"do {word} turn 1 x 1 times 1", "error NoName")
            self.stays(console, f"fill {word} oak", "error NoOrder")
            self.stays(console, f"fill door {word}", "error NoName")
            self.stays(console, f"drop {word}", "error NoOrder")
            self.stays(console, f"show {word}", "error NoName")
            self.stays(console, f"link oak {word}", "error NoName")


if __name__ == "__main__":
    unittest.main()
