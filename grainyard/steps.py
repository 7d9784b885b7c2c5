"""Steps that saw, split, glue, stack and turn sheets, their reverse, and their application to heaps."""

from grainyard.errors import BadStep, NoSheet
from grainyard.heaps import Heap, turned
from grainyard.lengths import added, is_length, scaled

# What the items behind the word of a step are, in order.
SHAPES = {
    "saw": ("sheet", "side", "pair", "copies"),
    "split": ("sheet", "side", "pieces", "copies"),
    "glue": ("sheet", "sheet", "side", "copies"),
    "stack": ("sheet", "side", "pieces", "copies"),
    "turn": ("sheet", "copies"),
}


def is_pair(item):
    """Whether an item is a tuple of two numbers."""
    return isinstance(item, tuple) and len(item) == 2 and isinstance(item[0], int) and isinstance(item[1], int)


def is_two_pairs(item):
    """Whether an item is a tuple of two pairs."""
    return isinstance(item, tuple) and len(item) == 2 and is_pair(item[0]) and is_pair(item[1])


def fits(item, kind):
    """Whether an item is what SHAPES calls this kind."""
    if kind == "sheet":
        return is_two_pairs(item)
    if kind == "side":
        return item in Heap.SIDES
    if kind == "pair":
        return is_pair(item)
    least = 2 if kind == "pieces" else 1
    return isinstance(item, int) and item >= least


def has_shape(step):
    """Whether a tuple begins with the word of a step and has its items behind it."""
    if len(step) == 0 or not isinstance(step[0], str) or step[0] not in SHAPES:
        return False
    shape = SHAPES[step[0]]
    return len(step) == len(shape) + 1 and all([fits(item, kind) for item, kind in zip(step[1:], shape)])


def side_of(sheet, side):
    """The pair that a sheet has as this side."""
    across, along = sheet
    return across if side == "across" else along


def with_side(sheet, side, pair):
    """A sheet with a pair as this side; the other side stays."""
    across, along = sheet
    return (pair, along) if side == "across" else (across, pair)


def is_even_split(step):
    """Whether both numbers of the side of a split are multiples of its pieces."""
    word, sheet, side, pieces, copies = step
    a, b = side_of(sheet, side)
    return a % pieces == 0 and b % pieces == 0


def is_even_glue(step):
    """Whether the sheets of a glue have equal other sides."""
    word, sheet, second, side, copies = step
    return side_of(turned(sheet), side) == side_of(turned(second), side)


def is_step(step):
    """Whether a tuple is a step."""
    if not has_shape(step):
        return False
    if step[0] == "split":
        return is_even_split(step)
    if step[0] == "glue":
        return is_even_glue(step)
    return True


def check_steps(steps):
    """Raise BadStep with the index of the first item that is not a step."""
    for at, step in enumerate(steps):
        if not is_step(step):
            raise BadStep(at)


def is_allowed(step, turning):
    """Whether a tuple is a step, and no turn where turning is not allowed."""
    return is_step(step) and (turning or step[0] != "turn")


def rest_of_saw(step):
    """The pair that the second piece of a saw step has as the side of the step."""
    word, sheet, side, part, copies = step
    return added(side_of(sheet, side), scaled(part, -1))


def reverse_of_saw(step):
    """A glue of the two pieces in order."""
    word, sheet, side, part, copies = step
    return "glue", with_side(sheet, side, part), with_side(sheet, side, rest_of_saw(step)), side, copies


def reverse_of_glue(step):
    """A saw whose part is the side of the first sheet."""
    word, sheet, second, side, copies = step
    part = side_of(sheet, side)
    return "saw", with_side(sheet, side, added(part, side_of(second, side))), side, part, copies


def reverse_of_split(step):
    """A stack of the pieces."""
    word, sheet, side, pieces, copies = step
    a, b = side_of(sheet, side)
    return "stack", with_side(sheet, side, (a // pieces, b // pieces)), side, pieces, copies


def reverse_of_stack(step):
    """A split into the same pieces."""
    word, sheet, side, pieces, copies = step
    return "split", with_side(sheet, side, scaled(side_of(sheet, side), pieces)), side, pieces, copies


def reverse_of(step):
    """The reverse of what is a step for certain."""
    if step[0] == "saw":
        return reverse_of_saw(step)
    if step[0] == "glue":
        return reverse_of_glue(step)
    if step[0] == "split":
        return reverse_of_split(step)
    if step[0] == "stack":
        return reverse_of_stack(step)
    word, sheet, copies = step
    return word, turned(sheet), copies


def back_of(step):
    """The reverse of a step, which undoes it; raise BadStep(0) if it is not a step."""
    check_steps([step])
    return reverse_of(step)


def needs_of(step):
    """The rows that a step takes, with different sheets in the order of the step."""
    sheet = step[1]
    copies = step[-1]
    if step[0] == "stack":
        return [(sheet, step[3] * copies)]
    if step[0] != "glue":
        return [(sheet, copies)]
    second = step[2]
    if second == sheet:
        return [(sheet, 2 * copies)]
    return [(sheet, copies), (second, copies)]


def saws_lengths(step, root):
    """Whether the part and the rest of a saw step are lengths."""
    return is_length(step[3], root) and is_length(rest_of_saw(step), root)


def check_possible(step, root, turning, at):
    """Raise BadStep with this index if a tuple is no step, or none that is possible here."""
    if not is_allowed(step, turning):
        raise BadStep(at)
    if step[0] == "saw" and not saws_lengths(step, root):
        raise BadStep(at)


def counts_of(heap):
    """A new dict from the sheets of a heap to their counts."""
    return {sheet: count for sheet, count in heap.rows()}


def take_rows(counts, rows):
    """Remove rows from a dict of counts; raise NoSheet with the first sheet of which there are too few."""
    for sheet, count in rows:
        if counts.get(sheet, 0) < count:
            raise NoSheet(sheet)
    for sheet, count in rows:
        counts[sheet] -= count
        if counts[sheet] == 0:
            del counts[sheet]


def put_rows(counts, rows):
    """Add rows to a dict of counts."""
    for sheet, count in rows:
        counts[sheet] = counts.get(sheet, 0) + count


def change_counts(counts, step):
    """Apply a step to a dict of counts."""
    take_rows(counts, needs_of(step))
    # A step makes just the sheets that its reverse takes.
    put_rows(counts, needs_of(reverse_of(step)))


def after(heap, step, *, turning=False):
    """The heap after a step."""
    return apply_steps(heap, [step], turning=turning)


def walk(heap, steps, *, turning=False):
    """Yield the heap after each step of a list, in order."""
    counts = counts_of(heap)
    for at, step in enumerate(list(steps)):
        check_possible(step, heap.root, turning, at)
        change_counts(counts, step)
        yield Heap(heap.root, list(counts.items()))


def apply_steps(heap, steps, *, turning=False):
    """The heap after all steps; the errors are those of walk."""
    # Only the last heap is made: to make one for each step would take long for a heap of many rows.
    counts = counts_of(heap)
    for at, step in enumerate(steps):
        check_possible(step, heap.root, turning, at)
        change_counts(counts, step)
    return Heap(heap.root, list(counts.items()))
