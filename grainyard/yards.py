"""Yards: named heaps and orders that change by deeds, with undo and redo."""

from grainyard.cutting import all_fit, rest_of
from grainyard.errors import BadCount, BadDeed, BadName, Full, NoName, NoOrder, NothingLeft, Taken
from grainyard.heaps import Heap, check_sheet
from grainyard.lengths import check_root
from grainyard.steps import after
from grainyard.tables import Table

LETTERS = "abcdefghijklmnopqrstuvwxyz"


def is_name(text):
    """Whether a text is a name: 1 to 8 lowercase letters."""
    return len(text) in range(1, 9) and all([letter in LETTERS for letter in text])


class Bench:
    """Copies of the heaps and orders of a yard, on which a batch is done; they are given up if a deed is wrong."""

    def __init__(self, root, turning, stocks, wishes):
        self.held_root = root
        self.allowed = turning
        self.stocks = dict(stocks)
        self.wishes = dict(wishes)
        self.done = []


def check_name(name):
    """Raise BadName if a text is not a name."""
    if not is_name(name):
        raise BadName(name)


def check_place(named, name):
    """Raise Full if a name is new where there are as many names as there may be."""
    if name not in named and len(named) >= Yard.MOST:
        raise Full(Yard.MOST)


def heap_named(stocks, name):
    """The heap with a name; raise NoName if there is none."""
    if name not in stocks:
        raise NoName(name)
    return stocks[name]


def order_named(wishes, name):
    """The heap of the order with a name; raise NoOrder if there is none."""
    if name not in wishes:
        raise NoOrder(name)
    return wishes[name]


def pack_of(root, sheet, copies):
    """The heap of copies of a sheet; raise BadSheet or BadCount."""
    check_sheet(sheet, root)
    if copies < 1:
        raise BadCount(copies)
    return Heap(root, [(sheet, copies)])


def put_pack(bench, name, pack):
    """Add the sheets of a pack to a heap, which is new if there is none with this name."""
    check_place(bench.stocks, name)
    bench.stocks[name] = bench.stocks.get(name, Heap(bench.held_root)) + pack


def bring(bench, name, sheet, copies):
    """Add copies of a sheet to a heap."""
    check_name(name)
    put_pack(bench, name, pack_of(bench.held_root, sheet, copies))


def sell(bench, name, sheet, copies):
    """Remove copies of a sheet from a heap."""
    heap = heap_named(bench.stocks, name)
    bench.stocks[name] = heap - pack_of(bench.held_root, sheet, copies)


def move(bench, name, second, sheet, copies):
    """Move copies of a sheet from a heap to a second one, which may be the same."""
    heap = heap_named(bench.stocks, name)
    check_name(second)
    pack = pack_of(bench.held_root, sheet, copies)
    bench.stocks[name] = heap - pack
    put_pack(bench, second, pack)


def apply_step(bench, name, step):
    """Apply a step to a heap."""
    bench.stocks[name] = after(heap_named(bench.stocks, name), step, turning=bench.allowed)
    bench.done.append(step)


def add_order(bench, name, rows):
    """Add an order for the heap of rows."""
    check_name(name)
    if name in bench.wishes:
        raise Taken(name)
    check_place(bench.wishes, name)
    bench.wishes[name] = Heap(bench.held_root, rows)


def fill(bench, order, name):
    """Remove an order and cut it out of a heap, of which the rest remains."""
    wish = order_named(bench.wishes, order)
    bench.stocks[name] = rest_of(heap_named(bench.stocks, name), wish, turning=bench.allowed)
    drop(bench, order)


def drop(bench, order):
    """Remove an order."""
    order_named(bench.wishes, order)
    del bench.wishes[order]


# The number of items of each deed, and the function that does it.
SIZES = {"bring": 4, "sell": 4, "move": 5, "step": 3, "order": 3, "fill": 3, "drop": 2}
ACTIONS = {
    "bring": bring,
    "sell": sell,
    "move": move,
    "step": apply_step,
    "order": add_order,
    "fill": fill,
    "drop": drop,
}


def check_deeds(deeds):
    """Raise BadDeed with the index of the first tuple that is not a deed."""
    for at, deed in enumerate(deeds):
        if len(deed) == 0 or len(deed) != SIZES.get(deed[0], 0):
            raise BadDeed(at)


def do_deed(bench, deed):
    """Do a deed."""
    word, *items = deed
    action = ACTIONS[word]
    action(bench, *items)


def check_depth(depth):
    """Raise BadCount if a number is not a depth."""
    if depth < 0 or depth > Yard.MOST_DEPTH:
        raise BadCount(depth)


class Yard:
    """A yard without heaps and orders at first."""

    MOST = 12
    MOST_DEPTH = 100

    def __init__(self, root, *, turning=False, depth=100):
        check_root(root)
        check_depth(depth)
        self.held_root = root
        self.allowed = turning
        self.limit = depth
        # These two dicts are replaced, never changed: batches and twins keep them.
        self.stocks = {}
        self.wishes = {}
        self.past = []
        self.future = []
        self.tallies = []

    @property
    def root(self):
        """The root of the lengths."""
        return self.held_root

    @property
    def turning(self):
        """Whether turning is allowed."""
        return self.allowed

    @property
    def history(self):
        """The tuple of the numbers of batches that can be undone and redone."""
        return len(self.past), len(self.future)

    @property
    def depth(self):
        """How many batches can be undone at most."""
        return self.limit

    @depth.setter
    def depth(self, value):
        check_depth(value)
        self.limit = value
        self.give_up()

    def change_depth(self, value):
        """Assign the value to `depth`."""
        self.depth = value

    def give_up(self):
        """Give up the oldest batches that are more than the depth allows."""
        self.past = self.past[max(0, len(self.past) - self.limit) :]

    def keep(self):
        """Keep the heaps and orders as they are now, so that the next batch can be undone."""
        self.past = self.past + [(self.stocks, self.wishes)]
        self.give_up()

    def do(self, deed):
        """Do one deed as a batch."""
        self.do_all([deed])

    def do_all(self, deeds):
        """Do a list of deeds as one batch: all of them, or none if one raises an error."""
        check_deeds(deeds)
        bench = Bench(self.held_root, self.allowed, self.stocks, self.wishes)
        for deed in deeds:
            do_deed(bench, deed)
        self.keep()
        self.stocks = bench.stocks
        self.wishes = bench.wishes
        self.future = []
        for tally in self.tallies:
            for step in bench.done:
                tally.note(step)

    def undo(self):
        """Undo the last batch."""
        if not self.past:
            raise NothingLeft()
        self.future.append((self.stocks, self.wishes))
        self.stocks, self.wishes = self.past.pop()

    def redo(self):
        """Redo the batch that was undone last."""
        if not self.future:
            raise NothingLeft()
        self.keep()
        self.stocks, self.wishes = self.future.pop()

    def names(self):
        """The ascending list of the names of heaps."""
        return sorted(self.stocks)

    def orders(self):
        """The ascending list of the names of orders."""
        return sorted(self.wishes)

    def heap(self, name):
        """The heap with a name."""
        return heap_named(self.stocks, name)

    def order(self, name):
        """The heap of the order with a name."""
        return order_named(self.wishes, name)

    def table(self):
        """The sum of the tables of all heaps."""
        total = Table()
        for heap in list(self.stocks.values()):
            total = total + heap.table()
        return total

    def fillable(self, name, *orders):
        """Whether orders, each as often as it is passed, can be cut out of a heap together."""
        heap = heap_named(self.stocks, name)
        wanted = [order_named(self.wishes, order) for order in orders]
        return all_fit(heap, *wanted, turning=self.allowed)

    def attach(self, tally):
        """Attach a tally, which is told the steps of all further batches."""
        self.tallies.append(tally)

    def twin(self):
        """An independent yard with the same heaps, orders, batches, turning and depth, without tallies."""
        other = Yard(self.held_root, turning=self.allowed, depth=self.limit)
        other.stocks = self.stocks
        other.wishes = self.wishes
        other.past = list(self.past)
        other.future = list(self.future)
        return other

    def __eq__(self, other):
        return (
            isinstance(other, Yard)
            and self.held_root == other.held_root
            and self.allowed == other.allowed
            and self.stocks == other.stocks
            and self.wishes == other.wishes
        )

    def __len__(self):
        return len(self.stocks)

    def __repr__(self):
        return f"Yard({len(self.stocks)} heaps, {len(self.wishes)} orders)"
