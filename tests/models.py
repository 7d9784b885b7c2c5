"""A second, plain way to compute what the program computes: heaps are Counters, steps go by the words of [7] and [8].

Nothing here uses the program, so its results can be compared with those of the program.
"""

from collections import Counter
from functools import cache
from random import Random

from tests.samples import close_lengths, value

PLACE = {"across": 0, "along": 1}
KINDS = {
    "saw": ["sheet", "text", "pair", "number"],
    "split": ["sheet", "text", "number", "number"],
    "glue": ["sheet", "sheet", "text", "number"],
    "stack": ["sheet", "text", "number", "number"],
    "turn": ["sheet", "number"],
}


def some_lengths(root):
    """Lengths of many sizes, among them such with a negative number and such close to zero."""
    pairs = [(1, 0), (0, 1), (2, 0), (3, 4), (12, -1), (-1, 1), (-9, 10), (10**20 - 1, 0), (-(10**19), 10**20 - 3)]
    pairs += close_lengths(root)[1:8:3] + [close_lengths(root)[40]]
    return [pair for pair in pairs if value(pair, root) > 0]


def some_sheets(root):
    """Sheets of many sizes, squares and turned sheets among them."""
    lengths = some_lengths(root)
    found = [(one, other) for one, other in zip(lengths, lengths[3:] + lengths[:3])]
    return found + [(other, one) for one, other in found[::2]] + [(one, one) for one in lengths[::3]]


def wrong_sheets(root):
    """Tuples of two pairs that are not sheets: one side or both sides are not lengths."""
    near = close_lengths(root)[30]
    wrong = [(0, 0), (-1, 0), (0, -1), (-near[0], -near[1]), (1, -1)]
    good = [(1, 0), near]
    found = [(one, other) for one in wrong for other in good] + [(one, other) for one in good for other in wrong]
    return found + [(one, other) for one in wrong for other in wrong]


def rows_of(counter):
    """The rows of a Counter in ascending order."""
    return sorted((sheet, count) for sheet, count in counter.items() if count)


def table_of(counter):
    """The four numbers of a table by the words of [6]."""
    t00 = t01 = t10 = t11 = 0
    for ((a, b), (c, e)), count in counter.items():
        t00 += a * c * count
        t01 += a * e * count
        t10 += b * c * count
        t11 += b * e * count
    return (t00, t01), (t10, t11)


def area_of(counter, root):
    """The area as the sum of the products of the sides."""
    pairs = [((a * c + root * b * e) * n, (a * e + b * c) * n) for ((a, b), (c, e)), n in counter.items()]
    return sum(pair[0] for pair in pairs), sum(pair[1] for pair in pairs)


def kind_of(item):
    if isinstance(item, str):
        return "text"
    if isinstance(item, int):
        return "number"
    return "pair" if all(isinstance(part, int) for part in item) else "sheet"


def is_step_by_words(step):
    """Whether a tuple is a step, by the words of [7]."""
    if not step or kind_of(step[0]) != "text" or [kind_of(item) for item in step[1:]] != KINDS.get(step[0]):
        return False
    if step[-1] < 1 or (step[0] in ("split", "stack") and step[3] < 2):
        return False
    if step[0] == "turn":
        return True
    side = step[3] if step[0] == "glue" else step[2]
    if side not in PLACE:
        return False
    place = PLACE[side]
    if step[0] == "split":
        return [number % step[3] for number in step[1][place]] == [0, 0]
    return step[0] != "glue" or step[1][1 - place] == step[2][1 - place]


def put(sheet, side, pair):
    """A sheet with another pair at a side."""
    pairs = list(sheet)
    pairs[PLACE[side]] = pair
    return tuple(pairs)


def taken_and_made(step):
    """The two Counters of the sheets that a step takes and makes."""
    word, sheet, copies = step[0], step[1], step[-1]
    if word == "turn":
        return Counter({sheet: copies}), Counter({sheet[::-1]: copies})
    if word == "glue":
        second, side = step[2], step[3]
        (a, b), (c, e) = sheet[PLACE[side]], second[PLACE[side]]
        taken = Counter({sheet: copies})
        taken[second] += copies
        return taken, Counter({put(sheet, side, (a + c, b + e)): copies})
    side = step[2]
    a, b = sheet[PLACE[side]]
    if word == "saw":
        c, e = step[3]
        made = Counter({put(sheet, side, (c, e)): copies})
        made[put(sheet, side, (a - c, b - e))] += copies
        return Counter({sheet: copies}), made
    pieces = step[3]
    if word == "split":
        return Counter({sheet: copies}), Counter({put(sheet, side, (a // pieces, b // pieces)): pieces * copies})
    return Counter({sheet: pieces * copies}), Counter({put(sheet, side, (a * pieces, b * pieces)): copies})


def after_by_words(counter, step):
    """The Counter after a step that can be applied."""
    taken, made = taken_and_made(step)
    found = Counter(counter)
    found.subtract(taken)
    assert min(found.values()) >= 0
    found.update(made)
    return +found


def random_counter(source, root, most=5):
    lengths = some_lengths(root)
    found = Counter()
    for _ in range(source.randint(1, most)):
        found[source.choice(lengths), source.choice(lengths)] += source.randint(1, 40)
    return found


def random_try(source, counter, root, turning):
    """A step that can be applied to a Counter, or None if a sheet was chosen that is too small to be sawn."""
    sheet = source.choice(sorted(counter))
    side = source.choice(["across", "along"])
    here, other_place = sheet[PLACE[side]], 1 - PLACE[side]
    seconds = [other for other in sorted(counter) if other != sheet and other[other_place] == sheet[other_place]]
    copies = source.randint(1, counter[sheet])
    word = source.choice(["saw", "split", "glue", "glue", "stack", "turn"])
    if word == "turn" and turning:
        return ("turn", sheet, copies)
    if word == "split":
        for pieces in (source.randint(2, 4), 2, 3, 5):
            if here[0] % pieces == 0 and here[1] % pieces == 0:
                return ("split", sheet, side, pieces, copies)
    if word == "stack" and counter[sheet] >= 2:
        pieces = source.randint(2, min(counter[sheet], 6))
        return ("stack", sheet, side, pieces, source.randint(1, counter[sheet] // pieces))
    if word == "glue" and seconds:
        second = source.choice(seconds)
        return ("glue", sheet, second, side, source.randint(1, min(counter[sheet], counter[second])))
    if word == "glue" and counter[sheet] >= 2:
        return ("glue", sheet, sheet, side, source.randint(1, counter[sheet] // 2))
    parts = [part for part in some_lengths(root) + close_lengths(root) if value(part, root) < value(here, root)]
    return ("saw", sheet, side, source.choice(parts), copies) if parts else None


def random_step(source, counter, root, turning):
    """A step that can be applied to a Counter."""
    step = None
    while step is None:
        step = random_try(source, counter, root, turning)
    return step


@cache
def runs_of_root(root, turning):
    source = Random(f"run {root} {turning}")
    runs = []
    for _ in range(6):
        counter = first = random_counter(source, root)
        steps, counters = [], []
        for _ in range(12):
            step = random_step(source, counter, root, turning)
            counter = after_by_words(counter, step)
            steps.append(step)
            counters.append(counter)
        runs.append((root, first, steps, counters))
    return runs


def random_runs(roots, turning):
    """Runs (root, Counter at the start, steps, Counter behind each step); the same ones in each call."""
    return [run for root in roots for run in runs_of_root(root, turning)]
