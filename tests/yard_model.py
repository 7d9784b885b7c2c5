"""A second, plain yard: heaps and orders are Counters, deeds go by the words of [15].

Only the rest of a fill is taken from the program, because the document promises no other one.
"""

from collections import Counter

from grainyard.cutting import rest_of
from grainyard.heaps import Heap
from tests.models import after_by_words, is_step_by_words, rows_of, taken_and_made
from tests.samples import positive

SIZES = {"bring": 4, "sell": 4, "move": 5, "step": 3, "order": 3, "fill": 3, "drop": 2}


class Wrong(Exception):
    """An error by its word and its attributes."""

    def __init__(self, word, **attributes):
        super().__init__(word)
        self.told = word, attributes


def is_name_by_words(text):
    return 1 <= len(text) <= 8 and all("a" <= letter <= "z" for letter in text)


def is_sheet_by_words(sheet, root):
    return all(positive(pair, root) for pair in sheet)


class YardModel:
    def __init__(self, root, turning, depth):
        self.root, self.turning, self.depth = root, turning, depth
        self.heaps, self.orders = {}, {}
        self.past, self.future, self.told = [], [], []

    def state(self):
        return {name: Counter(heap) for name, heap in self.heaps.items()}, dict(self.orders)

    def trim(self):
        while len(self.past) > self.depth:
            del self.past[0]

    def do_all(self, deeds):
        for at, deed in enumerate(deeds):
            if not deed or deed[0] not in SIZES or SIZES[deed[0]] != len(deed):
                raise Wrong("BadDeed", at=at)
        before, told = self.state(), list(self.told)
        try:
            for word, *items in deeds:
                getattr(self, f"deed_{word}")(*items)
        except Wrong:
            self.heaps, self.orders = before
            self.told = told
            raise
        self.past.append(before)
        self.trim()
        self.future = []

    def undo(self):
        if not self.past:
            raise Wrong("NothingLeft")
        self.future.append(self.state())
        self.heaps, self.orders = self.past.pop()

    def redo(self):
        if not self.future:
            raise Wrong("NothingLeft")
        self.past.append(self.state())
        self.trim()
        self.heaps, self.orders = self.future.pop()

    def change_depth(self, value):
        if not 0 <= value <= 100:
            raise Wrong("BadCount", number=value)
        self.depth = value
        self.trim()

    def there(self, name):
        if name not in self.heaps:
            raise Wrong("NoName", name=name)
        return self.heaps[name]

    def ordered(self, name):
        if name not in self.orders:
            raise Wrong("NoOrder", name=name)
        return self.orders[name]

    def check_name(self, name):
        if not is_name_by_words(name):
            raise Wrong("BadName", name=name)

    def check_pack(self, sheet, copies):
        if not is_sheet_by_words(sheet, self.root):
            raise Wrong("BadSheet")
        if copies < 1:
            raise Wrong("BadCount", number=copies)

    def check_full(self, name):
        if name not in self.heaps and len(self.heaps) == 12:
            raise Wrong("Full", most=12)

    def deed_bring(self, name, sheet, copies):
        self.check_name(name)
        self.check_pack(sheet, copies)
        self.check_full(name)
        self.heaps.setdefault(name, Counter())[sheet] += copies

    def take(self, heap, sheet, copies):
        if heap[sheet] < copies:
            raise Wrong("NoSheet", sheet=sheet)
        heap[sheet] -= copies

    def deed_sell(self, name, sheet, copies):
        heap = self.there(name)
        self.check_pack(sheet, copies)
        self.take(heap, sheet, copies)

    def deed_move(self, name, second, sheet, copies):
        heap = self.there(name)
        self.check_name(second)
        self.check_pack(sheet, copies)
        self.take(heap, sheet, copies)
        self.check_full(second)
        self.heaps.setdefault(second, Counter())[sheet] += copies

    def deed_step(self, name, step):
        heap = self.there(name)
        if not is_step_by_words(step) or (step[0] == "turn" and not self.turning):
            raise Wrong("BadStep", at=0)
        taken, made = taken_and_made(step)
        if step[0] == "saw" and not all(is_sheet_by_words(sheet, self.root) for sheet in self.sides(step)):
            raise Wrong("BadStep", at=0)
        for sheet, count in taken.items():
            if heap[sheet] < count:
                raise Wrong("NoSheet", sheet=sheet)
        self.heaps[name] = after_by_words(heap, step)
        self.told.append(step)

    def sides(self, step):
        """The part and the rest of a saw step, each as a square."""
        a, b = step[1][["across", "along"].index(step[2])]
        c, e = step[3]
        return [((c, e), (c, e)), ((a - c, b - e), (a - c, b - e))]

    def deed_order(self, name, rows):
        self.check_name(name)
        if name in self.orders:
            raise Wrong("Taken", name=name)
        if len(self.orders) == 12:
            raise Wrong("Full", most=12)
        found = Counter()
        for at, (sheet, count) in enumerate(rows):
            if count < 1 or not is_sheet_by_words(sheet, self.root):
                raise Wrong("BadRow", at=at)
            found[sheet] += count
        self.orders[name] = rows_of(found)

    def deed_fill(self, order, name):
        rows = self.ordered(order)
        stock, wish = Heap(self.root, rows_of(self.there(name))), Heap(self.root, rows)
        same = stock.table().marks(turning=self.turning) == wish.table().marks(turning=self.turning)
        (a, b), (c, e) = stock.area, wish.area
        if not same and not positive((a - c, b - e), self.root):
            raise Wrong("NotEnough")
        self.heaps[name] = Counter(dict(rest_of(stock, wish, turning=self.turning).rows()))
        del self.orders[order]

    def deed_drop(self, order):
        self.ordered(order)
        del self.orders[order]
