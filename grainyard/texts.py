"""Texts of pairs, sheets, heaps and steps, and how they are read again."""

from grainyard.errors import BadText
from grainyard.heaps import Heap, is_sheet
from grainyard.lengths import floor_of, is_root, product
from grainyard.numerals import decimal_text, grouped_text
from grainyard.steps import check_steps, is_step

MOST_DIGITS = 20

# The number of words in the text of each step.
STEP_SIZES = {"saw": 9, "split": 9, "glue": 11, "stack": 9, "turn": 6}


def pair_text(pair):
    """The text of a pair."""
    a, b = pair
    if b == 0:
        return decimal_text(a)
    if a == 0:
        return f"{decimal_text(b)}r"
    sign = "+" if b > 0 else ""
    return f"{decimal_text(a)}{sign}{decimal_text(b)}r"


def sheet_text(sheet):
    """The text of a tuple of two pairs."""
    across, along = sheet
    return f"{pair_text(across)} x {pair_text(along)}"


def row_text(row):
    """The text of a row: its count and its sheet."""
    sheet, count = row
    return f"{decimal_text(count)} {sheet_text(sheet)}"


def heap_text(heap):
    """The text of a heap: a line for its root and a line for each row."""
    lines = [f"root {heap.root}"] + [row_text(row) for row in heap.rows()]
    return "".join([f"{line}\n" for line in lines])


def sawing_text(step):
    """The text of a saw or split step without its copies."""
    word, sheet, side, part, copies = step
    if word == "saw":
        return f"saw {sheet_text(sheet)} {side} at {pair_text(part)}"
    return f"split {sheet_text(sheet)} {side} into {decimal_text(part)}"


def gluing_text(step):
    """The text of a glue or stack step without its copies."""
    if step[0] == "stack":
        word, sheet, side, pieces, copies = step
        return f"stack {decimal_text(pieces)} of {sheet_text(sheet)} {side}"
    word, sheet, second, side, copies = step
    return f"glue {sheet_text(sheet)} and {sheet_text(second)} {side}"


def step_text(step):
    """The text of a step; raise BadStep(0) if it is not a step."""
    check_steps([step])
    if step[0] in ("saw", "split"):
        head = sawing_text(step)
    elif step[0] in ("glue", "stack"):
        head = gluing_text(step)
    else:
        head = f"turn {sheet_text(step[1])}"
    return f"{head} times {decimal_text(step[-1])}"


def read_number(text):
    """The number that a text writes, None if it writes none."""
    digits = text[1:] if text.startswith("-") else text
    # The digits are counted first: int itself fails for very many.
    if len(digits) not in range(1, MOST_DIGITS + 1) or not all([digit in "0123456789" for digit in digits]):
        return None
    number = int(text)
    return number if str(number) == text else None


def read_numbers(texts):
    """The tuple of the numbers that texts write, None if one of them writes none."""
    numbers = tuple([read_number(text) for text in texts])
    return None if None in numbers else numbers


def read_pair(text):
    """The pair that a text writes, None if it writes none."""
    if not text.endswith("r"):
        return read_numbers((text, "0"))
    body = text[:-1]
    at = max(body.rfind("+"), body.rfind("-"))
    # A sign at the beginning is the sign of the only number.
    if at < 1:
        pair = read_numbers(("0", body))
    else:
        pair = read_numbers((body[:at], body[at:].removeprefix("+")))
    # Numbers that are 0 are written in other words, so the text of the pair may be another one.
    return pair if pair is not None and pair_text(pair) == text else None


def read_sheet(text):
    """The tuple of two pairs that a text writes, None if it writes none."""
    pairs = tuple([read_pair(part) for part in text.split(" x ")])
    return None if len(pairs) != 2 or None in pairs else pairs


def items_of_step(words):
    """The tuple of the step that these words can write, with None where an item is not written so; () for no step."""
    if len(words) != STEP_SIZES.get(words[0], 0):
        return ()
    copies = read_number(words[-1])
    if words[0] == "stack":
        return "stack", read_sheet(" ".join(words[3:6])), words[6], read_number(words[1]), copies
    sheet = read_sheet(" ".join(words[1:4]))
    if words[0] == "saw":
        return "saw", sheet, words[4], read_pair(words[6]), copies
    if words[0] == "split":
        return "split", sheet, words[4], read_number(words[6]), copies
    if words[0] == "glue":
        return "glue", sheet, read_sheet(" ".join(words[5:8])), words[8], copies
    return "turn", sheet, copies


def read_step(text):
    """The step that a text writes, None if it writes none."""
    step = items_of_step(text.split(" "))
    # The words between the items were not looked at.
    return step if is_step(step) and step_text(step) == text else None


def found_in_text(item):
    """What was read from a text; raise BadText(0) if it is None."""
    if item is None:
        raise BadText(0)
    return item


def parse_pair(text):
    """The pair that a text writes."""
    return found_in_text(read_pair(text))


def parse_sheet(text):
    """The tuple of two pairs that a text writes."""
    return found_in_text(read_sheet(text))


def parse_step(text):
    """The step that a text writes."""
    return found_in_text(read_step(text))


def read_root(line):
    """The root in the first line of the text of a heap, None if the line is not written so."""
    word, gap, rest = line.partition(" ")
    root = read_number(rest)
    if word != "root" or root is None or not is_root(root):
        return None
    return root


def read_row(line, root):
    """The row that a line of the text of a heap writes, None if the line is not written so."""
    word, gap, rest = line.partition(" ")
    count = read_number(word)
    sheet = read_sheet(rest)
    if count is None or count < 1 or sheet is None or not is_sheet(sheet, root):
        return None
    return sheet, count


def read_rows(lines, root):
    """The rows that the lines behind the first one write; raise BadText with the index of the first wrong line."""
    rows = []
    for at, line in enumerate(lines, start=1):
        row = read_row(line, root)
        if row is None or (rows and row[0] <= rows[-1][0]):
            raise BadText(at)
        rows.append(row)
    return rows


def parse_heap(text):
    """The heap whose text it is."""
    *lines, tail = text.split("\n")
    root = read_root(lines[0]) if lines else None
    if root is None:
        raise BadText(0)
    rows = read_rows(lines[1:], root)
    if tail:
        raise BadText(len(lines))
    return Heap(root, rows)


def listing_line(row, root):
    """The line of a row in a listing."""
    (across, along), count = row
    area = grouped_text(floor_of(product(across, along, root), root)).rjust(12)
    sides = f"{pair_text(across).ljust(14)}  {pair_text(along).ljust(14)}"
    return f"{decimal_text(count).rjust(8)}  {sides}  {area}\n"


def listing(heap):
    """The text of a table with a line for each row."""
    return "".join([listing_line(row, heap.root) for row in heap.rows()])
