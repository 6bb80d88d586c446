"""The shop: its stock, what it keeps under names, and its orders (part 22)."""

from foldandbound.errors import BadCourse, BadFlow, BadJob, BadPlate, BadStock, BadWord, Full, InUse
from foldandbound.errors import NothingToUndo, Short, Taken, Unknown
from foldandbound.flows import comes_out, is_course, is_flow, least_supply
from foldandbound.forms import is_natural, is_word
from foldandbound.jobs import is_job, printed
from foldandbound.sheets import is_any_plate

MOST_SORTS = 8
MOST_NAMES = 12


def is_stock(value):
    """Tell whether any value is a dict from at most 8 words to numbers of sheets."""
    if type(value) is not dict or len(value) > MOST_SORTS:
        return False
    return all(is_word(word) and is_natural(sheets) for word, sheets in value.items())


def must_be_word(value):
    """Raise BadWord if any value is not a word."""
    if not is_word(value):
        raise BadWord("the value is not a word")


def found_in(table, word):
    """Return what a table has under a word; raise Unknown if it has nothing there."""
    if not is_word(word) or word not in table:
        raise Unknown("there is nothing of this name")
    return table[word]


def copied(table):
    """Return a copy of a dict."""
    return {word: table[word] for word in table}


def make_changes(changes):
    """Make changes `(table, word, value)`: each puts a value under a word, or takes it away if it is None."""
    for table, word, value in changes:
        if value is None:
            del table[word]
        else:
            table[word] = value


class OpenOrder:
    """An order as it was told, and what its names of a job book and of a flow meant when it was taken."""

    def __init__(self, told, steps, runs):
        self.job, self.flow, self.copies, self.due = told
        self.steps = steps
        self.runs = runs
        self.supply = least_supply(runs, self.copies)


class Shop:
    """A shop with a stock of clean sheets, job books, plates and flows under names, and orders.

    Each deed is a list of changes of tables; `past` has, for each one that was not taken back, the
    changes that take it back.
    """

    def __init__(self, stock):
        if not is_stock(stock):
            raise BadStock("the value is not a stock")
        self.sheets = copied(stock)
        self.kept = {"job": {}, "plate": {}, "flow": {}}
        self.taken = {}
        self.done = {}
        self.past = []

    def _do(self, changes):
        """Make the changes of a deed, so that they can be taken back."""
        self.past.append([(table, word, table.get(word)) for table, word, _ in changes])
        make_changes(changes)

    def _keep(self, kind, word, value):
        """Keep a value of a kind under a word."""
        table = self.kept[kind]
        if word not in table and len(table) >= MOST_NAMES:
            raise Full("there are no more names of this kind")
        self._do([(table, word, value)])

    def set_job(self, word, job):
        """Put a job book under a word."""
        must_be_word(word)
        if not is_job(job):
            raise BadJob("the value is not a job book")
        self._keep("job", word, job)

    def set_plate(self, word, plate):
        """Put a plate under a word."""
        must_be_word(word)
        if not is_any_plate(plate):
            raise BadPlate("the value is not a plate")
        self._keep("plate", word, plate)

    def set_flow(self, word, flow):
        """Put a flow under a word."""
        must_be_word(word)
        if not is_flow(flow):
            raise BadFlow("the value is not a flow")
        self._keep("flow", word, flow)

    def drop(self, kind, word):
        """Take away what is kept of a kind under a word."""
        found_in(self.kept[kind], word)
        for order in self.taken.values():
            if (kind, word) in (("job", order.job), ("flow", order.flow)):
                raise InUse("an open order needs it")
        self._do([(self.kept[kind], word, None)])

    def take(self, word, job, flow, copies, due):
        """Take an order under a new word, and return its supply."""
        must_be_word(word)
        steps = self.thing("job", job)
        runs = self.thing("flow", flow)
        if word in self.taken or word in self.done:
            raise Taken("there is an order of this word")
        order = OpenOrder((job, flow, copies, due), steps, runs)
        left = {name: self.sheets.get(name, 0) - needed for name, needed in order.supply.items()}
        if any(sheets < 0 for sheets in left.values()):
            raise Short("the stock has too few sheets")
        self._do([(self.sheets, name, left[name]) for name in left] + [(self.taken, word, order)])
        return copied(order.supply)

    def finish(self, word, course):
        """End an open order with a course of its flow, and return how many came out."""
        order = found_in(self.taken, word)
        if not is_course(order.runs, course):
            raise BadCourse("the course cannot be for the flow")
        out = comes_out(order.runs, order.supply, course)
        self._do([(self.taken, word, None), (self.done, word, (word, order.copies, out))])
        return out

    def cancel(self, word):
        """End an open order and give its supply back to the stock."""
        supply = found_in(self.taken, word).supply
        back = [(self.sheets, name, self.sheets[name] + supply[name]) for name in supply]
        self._do(back + [(self.taken, word, None)])

    def deliver(self, word, sheets):
        """Put so many sheets of a word to the stock."""
        must_be_word(word)
        if word not in self.sheets and len(self.sheets) >= MOST_SORTS:
            raise Full("there is no room for one more word")
        self._do([(self.sheets, word, self.sheets.get(word, 0) + sheets)])

    def stock(self):
        """Return the dict of the stock."""
        return copied(self.sheets)

    def names(self, kind):
        """Return the ascending list of the names of a kind."""
        return sorted(self.kept[kind])

    def thing(self, kind, word):
        """Return what is kept of a kind under a word."""
        return found_in(self.kept[kind], word)

    def open_orders(self):
        """Return the ascending list of the open orders, as they were told."""
        told = [(word, order.job, order.flow, order.copies, order.due) for word, order in self.taken.items()]
        return sorted(told)

    def done_orders(self):
        """Return the ascending list of the finished orders, with what came out."""
        return sorted(self.done.values())

    def book_of(self, word):
        """Return what is read of the job book of an open order, with the plates as they are now."""
        return printed(found_in(self.taken, word).steps, self.kept["plate"])

    def undo(self):
        """Take back the last deed that was not taken back already."""
        if not self.past:
            raise NothingToUndo("there is no deed to take back")
        make_changes(self.past.pop())
