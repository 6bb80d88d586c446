"""Part 22: the shop."""

import copy
import itertools
import random
import unittest

from foldandbound import errors
from foldandbound.errors import (
    BadCourse, BadFlow, BadJob, BadPlate, BadStep, BadStock, BadWord, Full, InUse, NoBook, NothingToUndo, Short,
    ShopError, Taken, Unknown)
from foldandbound.jobs import printed
from foldandbound.shop import Shop
from tests.support import JUNK, ShopCase, corrupted, is_strictly, spoil

A, B = ("paper", "a"), ("paper", "b")
FLOW = ("gather", 2, (("run", 5, A), ("split", 2, ("run", 1, B))))
SHEET = ("sheet", "book", (1, 2))
JOB = (SHEET, ("print", "book", "p"), ("turn", "book", "turn"), ("print", "book", "q"), ("turn", "book", "turn"),
       ("fold", "book", ("column", 1, "low", "over")))
P = (((2, 0), (3, 0)),)
Q = (((4, 0), (1, 0)),)
NO_WORDS = ("", "A", "a b", "a ", "abcdefghijklm", "a1", "\u00e9", 1, 0, True, None, 1.5, b"a", ("a",), ["a"], {}, {"a": 1})
NAMES = ("a", "b", "c", "d", "e", "f", "g", "h", "i", "j", "k", "l", "m", "n")


def all_of(shop):
    """All that a shop tells of itself."""
    things = {kind: [(word, shop.thing(kind, word)) for word in shop.names(kind)] for kind in ("job", "plate", "flow")}
    books = {}
    for word, *_ in shop.open_orders():
        try:
            books[word] = shop.book_of(word)
        except (BadStep, NoBook) as error:
            books[word] = type(error).__name__
    return (shop.stock(), things, shop.open_orders(), shop.done_orders(), books)


def opened(stock=None):
    """A shop with a job book, two plates, a flow and a stock."""
    shop = Shop({"a": 100, "b": 100} if stock is None else stock)
    shop.set_job("j", JOB)
    shop.set_plate("p", P)
    shop.set_plate("q", Q)
    shop.set_flow("f", FLOW)
    return shop


class ShopTests(ShopCase):
    def refuses(self, error, shop, name, *arguments):
        """A deed raises an error and changes nothing: not what is there, and not what is taken back next."""
        before = all_of(shop)
        twin = copy.deepcopy(shop)
        self.fails(error, getattr(shop, name), *arguments)
        self.same(all_of(shop), before)
        try:
            twin.undo()
        except NothingToUndo:
            self.fails(NothingToUndo, shop.undo)
            return
        other = copy.deepcopy(shop)
        other.undo()
        self.same(all_of(other), all_of(twin))

    def does(self, shop, name, *arguments):
        """The result of a deed that changes no argument, and that can be taken back and done again."""
        before, given = all_of(shop), copy.deepcopy(arguments)
        result = getattr(shop, name)(*arguments)
        self.same(arguments, given)
        after = all_of(shop)
        self.same(shop.undo(), None)
        self.same(all_of(shop), before)
        self.same(getattr(shop, name)(*arguments), result)
        self.same(all_of(shop), after)
        return result


class TestMaking(ShopTests):
    """Point 22.1: the stock."""

    def test_good_stocks(self):
        for stock in ({}, {"a": 0}, {"a": 5, "b": 0}, {"abcdefghijkl": 10 ** 30}, dict.fromkeys(NAMES[:8], 3)):
            shop = Shop(stock)
            self.same(shop.stock(), stock)
            self.same(all_of(shop), (stock, {"job": [], "plate": [], "flow": []}, [], [], {}))

    def test_numbers_of_words(self):
        for many in (7, 8, 9, 12):
            if many <= 8:
                self.same(len(Shop(dict.fromkeys(NAMES[:many], 1)).stock()), many)
            else:
                self.fails(BadStock, Shop, dict.fromkeys(NAMES[:many], 1))

    def test_wrong_stocks(self):
        for value in JUNK:
            if not is_strictly(value, {}):
                self.fails_with_any(value)
        for word in NO_WORDS:
            if not isinstance(word, (list, dict)):
                self.fails_with_any({word: 1})
                self.fails_with_any({"a": 1, word: 1})
        for number in (-1, -10 ** 20, True, False, 1.0, "1", None, (1,), [1], {}, b"1", float("nan")):
            self.fails_with_any({"a": number})
            self.fails_with_any({"a": 1, "b": number})
        for value in ([("a", 1)], (("a", 1),), [], (), "a", None, 0, {"a"}, [{"a": 1}]):
            self.fails_with_any(value)

    def fails_with_any(self, value):
        with self.assertRaises(BadStock) as caught:
            Shop(value)
        self.assertIs(type(caught.exception), BadStock)

    def test_the_stock_is_copied(self):
        stock = {"a": 5}
        shop = Shop(stock)
        stock["a"] = 9
        stock["b"] = 1
        self.same(shop.stock(), {"a": 5})
        shop.deliver("a", 1)
        self.same(stock, {"a": 9, "b": 1})


class TestNames(ShopTests):
    """Point 22.1: names of job books, plates and flows."""

    GOOD = (("set_job", "job", JOB, ()), ("set_plate", "plate", P, (((0, 0),),)), ("set_flow", "flow", FLOW, A))
    WRONG = {"set_job": BadJob, "set_plate": BadPlate, "set_flow": BadFlow}

    def test_setting(self):
        for name, kind, value, other in self.GOOD:
            shop = Shop({"a": 5})
            self.same(shop.names(kind), [])
            self.same(self.does(shop, name, "b", value), None)
            self.same(self.does(shop, name, "abcdefghijkl", other), None)
            self.same(shop.names(kind), ["abcdefghijkl", "b"])
            self.same(shop.thing(kind, "b"), value)
            self.same(shop.thing(kind, "abcdefghijkl"), other)
            self.same(self.does(shop, name, "b", other), None)
            self.same(shop.thing(kind, "b"), other)
            self.same(shop.names(kind), ["abcdefghijkl", "b"])
            for unlike in ("job", "plate", "flow"):
                if unlike != kind:
                    self.same(shop.names(unlike), [])
                    self.fails(Unknown, shop.thing, unlike, "b")

    def test_plates_of_all_sizes(self):
        shop = Shop({})
        for size in ((1, 1), (1, 16), (16, 1), (8, 8), (4, 16)):
            plate = (((0, 0),) * size[1],) * size[0]
            self.does(shop, "set_plate", "p", plate)
            self.same(shop.thing("plate", "p"), plate)
        for size in ((1, 17), (17, 1), (8, 9), (0, 1), (1, 0)):
            self.refuses(BadPlate, shop, "set_plate", "p", (((0, 0),) * size[1],) * size[0])
        for plate in ((((1, 0), (2, 0)), ((3, 0),)), (((0, 1),),), (((10000, 0),),), (((1, 2),),), (((True, 0),),)):
            self.refuses(BadPlate, shop, "set_plate", "p", plate)

    def test_wrong_words(self):
        for name, kind, value, _ in self.GOOD:
            shop = opened()
            for word in NO_WORDS:
                self.refuses(BadWord, shop, name, word, value)
                # The first error is told first.
                self.refuses(BadWord, shop, name, word, None)

    def test_wrong_values(self):
        for name, kind, value, _ in self.GOOD:
            shop = opened()
            error = self.WRONG[name]
            for junk in JUNK:
                if name != "set_job" or not is_strictly(junk, ()):
                    if name != "set_plate" or not is_strictly(junk, (((1, 0),),)):
                        with self.assertRaises(error, msg=repr(junk)[:80]) as caught:
                            getattr(shop, name)("a", junk)
                        self.assertIs(type(caught.exception), error)
            for other in corrupted(value):
                with self.assertRaises(error, msg=other):
                    getattr(shop, name)("a", other)
            self.same(shop.names(kind), opened().names(kind))
        self.refuses(BadJob, shop, "set_job", "a", (("turn", "a", "turn"),) * 61)
        self.does(shop, "set_job", "a", (("turn", "a", "turn"),) * 60)

    def test_full(self):
        for name, kind, value, other in self.GOOD:
            shop = Shop({})
            for word in NAMES[:12]:
                self.does(shop, name, word, value)
            self.same(shop.names(kind), list(NAMES[:12]))
            self.refuses(Full, shop, name, "m", value)
            # The first error is told first.
            self.refuses(BadWord, shop, name, "M", value)
            self.refuses(self.WRONG[name], shop, name, "m", None)
            # A name that is there can be set anew.
            self.does(shop, name, "l", other)
            self.same(shop.thing(kind, "l"), other)
            self.does(shop, "drop", kind, "a")
            self.does(shop, name, "m", value)
            self.refuses(Full, shop, name, "a", value)

    def test_dropping(self):
        for name, kind, value, other in self.GOOD:
            shop = opened()
            self.refuses(Unknown, shop, "drop", kind, "a")
            for word in NO_WORDS:
                self.refuses(Unknown, shop, "drop", kind, word)
            getattr(shop, name)("a", value)
            self.same(self.does(shop, "drop", kind, "a"), None)
            self.refuses(Unknown, shop, "drop", kind, "a")
            self.fails(Unknown, shop.thing, kind, "a")

    def test_what_an_open_order_needs(self):
        shop = opened()
        shop.set_job("f", JOB)
        shop.set_flow("j", FLOW)
        shop.take("o", "j", "f", 1, 0)
        self.refuses(InUse, shop, "drop", "job", "j")
        self.refuses(InUse, shop, "drop", "flow", "f")
        # Another kind of thing may have the name.
        self.does(shop, "drop", "job", "f")
        self.does(shop, "drop", "flow", "j")
        self.does(shop, "drop", "plate", "p")
        self.refuses(Unknown, shop, "drop", "plate", "j")
        # Set anew, it is still the one of the order.
        shop.set_job("j", ())
        shop.set_flow("f", A)
        self.refuses(InUse, shop, "drop", "job", "j")
        self.refuses(InUse, shop, "drop", "flow", "f")
        shop.take("other", "j", "f", 1, 0)
        shop.finish("o", (0, 0, 0))
        self.refuses(InUse, shop, "drop", "job", "j")
        shop.cancel("other")
        self.does(shop, "drop", "job", "j")
        self.does(shop, "drop", "flow", "f")


class TestOrders(ShopTests):
    """Points 22.1 and 22.2: orders."""

    def test_taking(self):
        shop = opened({"a": 20, "b": 8, "c": 4})
        self.same(self.does(shop, "take", "o", "j", "f", 10, 50), {"a": 17, "b": 7})
        self.same(shop.stock(), {"a": 3, "b": 1, "c": 4})
        self.same(shop.open_orders(), [("o", "j", "f", 10, 50)])
        self.same(shop.done_orders(), [])

    def test_the_stock_just_serves(self):
        shop = opened({"a": 17, "b": 7})
        self.same(self.does(shop, "take", "o", "j", "f", 10, 0), {"a": 17, "b": 7})
        self.same(shop.stock(), {"a": 0, "b": 0})
        for stock in ({"a": 16, "b": 7}, {"a": 17, "b": 6}, {"a": 17}, {"b": 7}, {}, {"a": 17, "c": 7}, {"a": 0, "b": 7}):
            shop = opened(stock)
            self.refuses(Short, shop, "take", "o", "j", "f", 10, 0)
            self.same(shop.stock(), stock)
        shop = opened({"a": 17, "b": 7})
        self.refuses(Short, shop, "take", "o", "j", "f", 11, 0)
        # A word that the stock does not have counts as 0, and one sheet of it is one too many.
        shop.set_flow("c", ("paper", "c"))
        self.refuses(Short, shop, "take", "o", "j", "c", 1, 0)
        shop.deliver("c", 1)
        self.same(self.does(shop, "take", "o", "j", "c", 1, 0), {"c": 1})

    def test_errors_of_taking(self):
        shop = opened()
        for word in NO_WORDS:
            self.refuses(BadWord, shop, "take", word, "j", "f", 1, 0)
            self.refuses(BadWord, shop, "take", word, "x", "x", 1000, 0)
        for job, flow in (("x", "f"), ("j", "x"), ("f", "f"), ("j", "j"), ("p", "f"), ("x", "x")):
            self.refuses(Unknown, shop, "take", "o", job, flow, 1, 0)
            self.refuses(Unknown, shop, "take", "o", job, flow, 1000, 0)
        self.refuses(Short, shop, "take", "o", "j", "f", 1000, 0)
        shop.take("o", "j", "f", 1, 0)
        shop.take("p", "j", "f", 1, 0)
        shop.finish("p", (0, 0, 0))
        for word in ("o", "p"):
            self.refuses(Taken, shop, "take", word, "j", "f", 1, 0)
            self.refuses(Taken, shop, "take", word, "j", "f", 1000, 0)
            self.refuses(Unknown, shop, "take", word, "j", "x", 1000, 0)
            self.refuses(Unknown, shop, "take", word, "x", "f", 1000, 0)

    def test_words_are_free_again(self):
        shop = opened()
        shop.take("o", "j", "f", 1, 0)
        shop.cancel("o")
        self.does(shop, "take", "o", "j", "f", 2, 0)
        shop.finish("o", (0, 0, 0))
        self.refuses(Taken, shop, "take", "o", "j", "f", 2, 0)
        shop.undo()
        self.refuses(Taken, shop, "take", "o", "j", "f", 2, 0)
        shop.undo()
        self.does(shop, "take", "o", "j", "f", 3, 0)

    def test_finishing(self):
        for course, out in (((2, 5, 1), 10), ((0, 0, 0), 14), ((0, 5, 0), 12), ((0, 0, 1), 12), ((2, 0, 0), 12)):
            shop = opened()
            shop.take("o", "j", "f", 10, 50)
            stock = shop.stock()
            self.same(self.does(shop, "finish", "o", course), out)
            self.same(shop.open_orders(), [])
            self.same(shop.done_orders(), [("o", 10, out)])
            self.same(shop.stock(), stock)
            self.refuses(Unknown, shop, "finish", "o", course)
            self.refuses(Unknown, shop, "cancel", "o")
            self.fails(Unknown, shop.book_of, "o")

    def test_a_flow_without_runs(self):
        shop = opened()
        shop.set_flow("g", ("split", 4, A))
        self.same(self.does(shop, "take", "o", "j", "g", 5, 0), {"a": 2})
        self.refuses(BadCourse, shop, "finish", "o", (0,))
        self.same(self.does(shop, "finish", "o", ()), 8)

    def test_courses_that_cannot_be(self):
        shop = opened()
        shop.take("o", "j", "f", 10, 50)
        for course in ((), (0,), (0, 0), (0, 0, 0, 0), (3, 0, 0), (0, 6, 0), (0, 0, 2), (-1, 0, 0), (0, 0, -1), [0, 0, 0],
                       (True, 0, 0), (0, 0, 0.0), (0, 0, "0"), (0, 0, None), "000", None, 0, {}, ((0, 0, 0),)):
            self.refuses(BadCourse, shop, "finish", "o", course)
            self.refuses(Unknown, shop, "finish", "x", course)
        for word in NO_WORDS:
            self.refuses(Unknown, shop, "finish", word, (0, 0, 0))

    def test_cancelling(self):
        shop = opened({"a": 30, "b": 9})
        shop.take("o", "j", "f", 10, 50)
        shop.deliver("a", 5)
        shop.deliver("c", 1)
        self.same(self.does(shop, "cancel", "o"), None)
        self.same(shop.stock(), {"a": 35, "b": 9, "c": 1})
        self.same((shop.open_orders(), shop.done_orders()), ([], []))
        for word in ("o", "x") + NO_WORDS:
            self.refuses(Unknown, shop, "cancel", word)

    def test_lists_of_orders(self):
        shop = opened()
        for word, copies in (("b", 1), ("ab", 2), ("c", 3), ("a", 1)):
            shop.take(word, "j", "f", copies, 10 - copies)
        wanted = [("a", "j", "f", 1, 9), ("ab", "j", "f", 2, 8), ("b", "j", "f", 1, 9), ("c", "j", "f", 3, 7)]
        self.same(shop.open_orders(), wanted)
        for word in ("c", "a", "ab"):
            shop.finish(word, (0, 0, 0))
        self.same(shop.open_orders(), [wanted[2]])
        # What came out is counted with the supply of the order.
        self.same(shop.done_orders(), [("a", 1, 6), ("ab", 2, 6), ("c", 3, 8)])

    def test_many_orders(self):
        shop = opened({"a": 10 ** 6, "b": 10 ** 6})
        for one, two in itertools.product("abcdefghij", repeat=2):
            shop.take(one + two, "j", "f", 1, 0)
            shop.finish(one + two, (0, 0, 0))
        self.same(len(shop.done_orders()), 100)
        for _ in range(200):
            shop.undo()
        self.same(shop.stock(), {"a": 10 ** 6, "b": 10 ** 6})

    def test_names_set_anew(self):
        shop = opened()
        shop.take("o", "j", "f", 10, 50)
        book = shop.book_of("o")
        shop.set_job("j", ())
        shop.set_flow("f", ("run", 9, A))
        self.same(shop.book_of("o"), book)
        self.same(shop.open_orders(), [("o", "j", "f", 10, 50)])
        self.refuses(BadCourse, shop, "finish", "o", (9,))
        self.same(shop.finish("o", (2, 5, 1)), 10)
        # New orders have the new ones.
        self.same(shop.take("n", "j", "f", 1, 0), {"a": 10})
        self.fails(NoBook, shop.book_of, "n")
        self.same(shop.finish("n", (9,)), 1)

    def test_books(self):
        shop = opened()
        shop.take("o", "j", "f", 10, 50)
        self.same(shop.book_of("o"), [(1, 0), (2, 0), (3, 0), (4, 0)])
        # The plates are those of now.
        shop.set_plate("p", (((7, 1), (0, 0)),))
        self.same(shop.book_of("o"), [(1, 0), (7, 1), (0, 0), (4, 0)])
        shop.set_plate("q", (((8, 0),),))
        self.same(shop.book_of("o"), [(0, 0), (7, 1), (0, 0), (8, 0)])
        shop.drop("plate", "p")
        self.same(shop.book_of("o"), [(0, 0), (0, 0), (0, 0), (8, 0)])
        self.same(shop.book_of("o"), printed(JOB, {"q": (((8, 0),),)}))
        for word in ("x", "j") + NO_WORDS:
            self.fails(Unknown, shop.book_of, word)

    def test_books_that_cannot_be_read(self):
        shop = opened()
        for job, error, fields in (((), NoBook, {}), ((SHEET,), NoBook, {}), ((SHEET, SHEET), BadStep, {"step": 1}),
                                   (JOB + (("lay", "book", "a"),), BadStep, {"step": 6})):
            shop.set_job("j", job)
            shop.take("o", "j", "f", 1, 0)
            self.fails(error, shop.book_of, "o", **fields)
            shop.cancel("o")


class TestDeliveries(ShopTests):
    """Point 22.1: deliveries."""

    def test_delivering(self):
        shop = Shop({"a": 5})
        self.same(self.does(shop, "deliver", "a", 3), None)
        self.same(shop.stock(), {"a": 8})
        self.does(shop, "deliver", "b", 2)
        self.same(shop.stock(), {"a": 8, "b": 2})
        self.does(shop, "deliver", "a", 0)
        self.same(shop.stock(), {"a": 8, "b": 2})
        self.does(shop, "deliver", "c", 0)
        self.same(shop.stock(), {"a": 8, "b": 2, "c": 0})
        for word in NO_WORDS:
            self.refuses(BadWord, shop, "deliver", word, 1)

    def test_a_ninth_word(self):
        shop = Shop(dict.fromkeys(NAMES[:7], 1))
        self.does(shop, "deliver", "h", 1)
        for sheets in (0, 1, 100):
            self.refuses(Full, shop, "deliver", "i", sheets)
            self.refuses(BadWord, shop, "deliver", "I", sheets)
        self.does(shop, "deliver", "h", 1)
        self.same(shop.stock()["h"], 2)
        shop.undo()
        shop.undo()
        self.does(shop, "deliver", "i", 1)


class TestCopies(ShopTests):
    """Point 0.2: what was given or returned can be changed."""

    def test_what_is_returned(self):
        shop = opened()
        shop.take("n", "j", "f", 1, 0)
        shop.finish("n", (0, 0, 0))
        supply = shop.take("o", "j", "f", 10, 50)
        before = all_of(shop)
        for value in (supply, shop.stock(), shop.names("job"), shop.names("plate"), shop.names("flow"),
                      shop.open_orders(), shop.done_orders(), shop.book_of("o"), shop.thing("job", "j")):
            self.plain(value)
            spoil(value)
        self.same(all_of(shop), before)
        supply.clear()
        self.same(shop.finish("o", (2, 5, 1)), 10)
        self.same(shop.take("p", "j", "f", 10, 50), {"a": 17, "b": 7})
        shop.cancel("p")
        shop.undo()
        shop.undo()
        shop.undo()
        shop.cancel("o")
        shop.undo()
        self.same(all_of(shop), before)


class TestUndo(ShopTests):
    """Point 22.3."""

    def test_nothing(self):
        self.fails(NothingToUndo, Shop({}).undo)
        shop = Shop({"a": 1})
        self.fails(NothingToUndo, shop.undo)
        self.fails(BadWord, shop.deliver, "A", 1)
        self.fails(NothingToUndo, shop.undo)
        shop.deliver("a", 1)
        shop.undo()
        self.fails(NothingToUndo, shop.undo)
        self.same(shop.stock(), {"a": 1})
        # What only asks is no deed.
        shop.stock(), shop.names("job"), shop.open_orders(), shop.done_orders()
        self.fails(NothingToUndo, shop.undo)

    def test_deeds_that_change_nothing(self):
        shop = opened()
        before = all_of(shop)
        shop.set_job("j", JOB)
        shop.deliver("a", 0)
        self.same(all_of(shop), before)
        shop.deliver("a", 7)
        for _ in range(3):
            shop.undo()
        self.same(all_of(shop), before)
        shop.undo()
        self.fails(Unknown, shop.thing, "flow", "f")

    def test_random_deeds(self):
        rng = random.Random(221)
        told = {}
        start = [("set_job", ("j", JOB)), ("set_plate", ("p", P)), ("set_plate", ("q", Q)), ("set_flow", ("f", FLOW))]
        for _ in range(60):
            stock = {"a": rng.randint(0, 120), "b": rng.randint(0, 60)}
            stock.update(dict.fromkeys("cdefgh"[:rng.choice((0, 5, 6))], 1))
            shop = Shop(stock)
            states = [all_of(shop)]
            model = Model(shop.stock())
            for name, arguments in start + [random_deed(rng) for _ in range(60)]:
                result = outcome(getattr(shop, name), arguments)
                wanted = outcome(getattr(model, name), arguments)
                self.same(result, wanted, (name, arguments))
                told[name, wanted if isinstance(wanted, str) else "done"] = True
                after = all_of(shop)
                self.same(after[:4], model.told(), (name, arguments))
                if isinstance(wanted, str):
                    self.same(after, states[-1])
                elif name == "undo":
                    states.pop()
                    self.same(after, states[-1])
                else:
                    states.append(after)
            # All the way back.
            for state in states[-2::-1]:
                shop.undo()
                self.same(all_of(shop), state)
            self.fails(NothingToUndo, shop.undo)
        for name, error in (("take", "Short"), ("take", "Taken"), ("take", "Unknown"), ("drop", "InUse"),
                            ("finish", "BadCourse"), ("cancel", "Unknown"), ("take", "done"), ("finish", "done"),
                            ("drop", "done"), ("cancel", "done"), ("undo", "done"), ("deliver", "Full")):
            self.assertIn((name, error), told)


class Model:
    """A shop that keeps all that was there before each deed. It knows only the flows FLOW and A."""

    RUNS = {FLOW: (2, 5, 1), A: ()}

    def __init__(self, stock):
        self.state = {"stock": dict(stock), "job": {}, "plate": {}, "flow": {}, "open": {}, "done": {}}
        self.before = []

    def told(self):
        state = self.state
        things = {kind: sorted(state[kind].items()) for kind in ("job", "plate", "flow")}
        orders = [(word,) + order[:4] for word, order in sorted(state["open"].items())]
        return (state["stock"], things, orders, [(word,) + done for word, done in sorted(state["done"].items())])

    def change(self):
        self.before.append(copy.deepcopy(self.state))
        return self.state

    def set(self, kind, word, value):
        if word not in self.state[kind] and len(self.state[kind]) == 12:
            raise Full
        self.change()[kind][word] = value

    def set_job(self, word, value):
        self.set("job", word, value)

    def set_plate(self, word, value):
        self.set("plate", word, value)

    def set_flow(self, word, value):
        self.set("flow", word, value)

    def drop(self, kind, word):
        if word not in self.state[kind]:
            raise Unknown
        for order in self.state["open"].values():
            if kind == "job" and order[0] == word or kind == "flow" and order[1] == word:
                raise InUse
        del self.change()[kind][word]

    def take(self, word, job, flow, copies, due):
        if job not in self.state["job"] or flow not in self.state["flow"]:
            raise Unknown
        if word in self.state["open"] or word in self.state["done"]:
            raise Taken
        runs = self.state["flow"][flow]
        supply = {"a": copies}
        if runs == FLOW:
            supply = {"a": copies + 7, "b": (copies + 3) // 2 + 1}
        if any(self.state["stock"].get(name, 0) < number for name, number in supply.items()):
            raise Short
        state = self.change()
        for name, number in supply.items():
            state["stock"][name] -= number
        state["open"][word] = (job, flow, copies, due, runs, supply)
        return supply

    def order(self, word):
        if word not in self.state["open"]:
            raise Unknown
        return self.state["open"][word]

    def finish(self, word, course):
        _, _, copies, _, runs, supply = self.order(word)
        most = self.RUNS[runs]
        if len(course) != len(most) or not all(0 <= spoils <= mine for spoils, mine in zip(course, most)):
            raise BadCourse
        out = supply["a"]
        if runs == FLOW:
            out = max(0, min(supply["a"] - course[1], 2 * (supply["b"] - course[2])) - course[0])
        state = self.change()
        del state["open"][word]
        state["done"][word] = (copies, out)
        return out

    def cancel(self, word):
        supply = self.order(word)[5]
        state = self.change()
        for name, number in supply.items():
            state["stock"][name] += number
        del state["open"][word]

    def deliver(self, word, sheets):
        if word not in self.state["stock"] and len(self.state["stock"]) == 8:
            raise Full
        stock = self.change()["stock"]
        stock[word] = stock.get(word, 0) + sheets

    def undo(self):
        if not self.before:
            raise NothingToUndo
        self.state = self.before.pop()


def outcome(function, arguments):
    """What a call returns, or the name of the error that it raises."""
    try:
        return function(*arguments)
    except ShopError as error:
        assert type(error) is getattr(errors, type(error).__name__)
        return type(error).__name__


def random_deed(rng):
    """The name and the arguments of a random deed."""
    word, job, flow = rng.choice("opr"), rng.choice("jjjk"), rng.choice("fffg")
    course = rng.choice(((2, 5, 1), (0, 0, 0), (1, 5, 0), (), (3, 0, 0), (0, 0), (0, 0, 2)))
    kind, name = rng.choice((("job", job), ("flow", flow), ("plate", rng.choice("pqrs"))))
    return rng.choice((
        ("set_job", (job, rng.choice((JOB, (), JOB[:3])))), ("set_plate", (rng.choice("pqrs"), rng.choice((P, Q)))),
        ("set_flow", (flow, rng.choice((FLOW, A)))), ("drop", (kind, name)), ("take", (word, job, flow, rng.randint(1, 9), 5)),
        ("take", (word, job, flow, rng.randint(1, 40), 5)), ("take", (word, "j", "f", 1, rng.randint(0, 9))),
        ("finish", (word, course)), ("finish", (word, (0, 0, 0))), ("cancel", (word,)),
        ("deliver", (rng.choice("abcdefghi"), rng.randint(0, 20))), ("undo", ()), ("undo", ())))


if __name__ == "__main__":
    unittest.main()
