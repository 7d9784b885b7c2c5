"""A console that runs lines on a yard."""

from grainyard.errors import GrainError, GrainMissing, NoSquares, NothingLeft
from grainyard.fewest import fewest_sheets
from grainyard.linking import linked
from grainyard.numerals import decimal_text
from grainyard.squares import squares_of
from grainyard.texts import read_number, read_sheet, read_step, row_text


def sheet_deed(words):
    """The deed of a line with a name, a count and a sheet, None if the line is not written so."""
    if len(words) != 6:
        return None
    word, name, count, *rest = words
    copies = read_number(count)
    sheet = read_sheet(" ".join(rest))
    if copies is None or sheet is None:
        return None
    if word == "order":
        return word, name, [(sheet, copies)]
    return word, name, sheet, copies


def step_deed(words):
    """The deed of a line with a name and a step, None if the line is not written so."""
    step = read_step(" ".join(words[2:]))
    return None if step is None else ("step", words[1], step)


def fill_deed(words):
    """The deed of a line with the names of an order and of a heap, None if the line is not written so."""
    return tuple(words) if len(words) == 3 else None


def drop_deed(words):
    """The deed of a line with the name of an order, None if the line is not written so."""
    return tuple(words) if len(words) == 2 else None


DEEDS = {
    "bring": sheet_deed,
    "sell": sheet_deed,
    "order": sheet_deed,
    "do": step_deed,
    "fill": fill_deed,
    "drop": drop_deed,
}


def undo(yard):
    """Undo the last batch."""
    yard.undo()
    return "ok"


def redo(yard):
    """Redo the batch that was undone last."""
    yard.redo()
    return "ok"


def names_of(yard):
    """The names of the heaps."""
    return " ".join(yard.names()) or "none"


def orders_of(yard):
    """The names of the orders."""
    return " ".join(yard.orders()) or "none"


def show(yard, name):
    """The rows of a heap."""
    return "; ".join([row_text(row) for row in yard.heap(name).rows()]) or "empty"


def table_of(yard, name):
    """The four entries of the table of a heap."""
    return " ".join([decimal_text(mark) for mark in yard.heap(name).table().marks()])


def few(yard, name):
    """The fewest sheets of a heap."""
    return str(fewest_sheets(yard.heap(name), turning=yard.turning))


def squares(yard, name):
    """Whether a heap can be changed into squares."""
    heap = yard.heap(name)
    try:
        squares_of(heap, turning=yard.turning)
    except NoSquares:
        return "no"
    return "yes"


def link(yard, one, other):
    """Whether two heaps are linked."""
    return "yes" if linked(yard.heap(one), yard.heap(other), turning=yard.turning) else "no"


# The number of words of each line that does no deed, and the function that answers it.
SIZES = {"undo": 1, "redo": 1, "names": 1, "orders": 1, "show": 2, "table": 2, "few": 2, "squares": 2, "link": 3}
ANSWERS = {
    "undo": undo,
    "redo": redo,
    "names": names_of,
    "orders": orders_of,
    "show": show,
    "table": table_of,
    "few": few,
    "squares": squares,
    "link": link,
}


def deed_answer(yard, words):
    """Do the deed of a line and return the answer."""
    deed_of = DEEDS[words[0]]
    deed = deed_of(words)
    if deed is None:
        return "unknown"
    yard.do(deed)
    return "ok"


def answer(yard, words):
    """The answer to the words of a line; what goes wrong raises an error."""
    word, *names = words
    if word in DEEDS:
        return deed_answer(yard, words)
    if len(words) != SIZES.get(word, 0):
        return "unknown"
    reply = ANSWERS[word]
    return reply(yard, *names)


class Console:
    """A console that works on one yard."""

    def __init__(self, yard):
        self.held_yard = yard
        self.lines = []

    def yard(self):
        """The yard."""
        return self.held_yard

    def run(self, line):
        """The answer to a line."""
        self.lines.append(line)
        words = line.split(" ")
        # Spaces that are not single, or stand at an end, have an empty word beside them.
        if "" in words:
            return "unknown"
        try:
            return answer(self.held_yard, words)
        except (GrainError, GrainMissing, NothingLeft) as error:
            return f"error {error.word}"

    def __len__(self):
        return len(self.lines)
