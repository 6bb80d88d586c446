"""The console: lines that are commands for a shop (part 23)."""

from foldandbound.errors import BadText, ShopError
from foldandbound.flows import least_supply
from foldandbound.folding import is_fold
from foldandbound.forms import is_word
from foldandbound.jobs import makes
from foldandbound.jobways import alike_jobs, without_step
from foldandbound.orders import order_of
from foldandbound.sheets import is_size
from foldandbound.shop import Shop
from foldandbound.texts import fold_of, number_in, pair_in, read_flow, read_plate, step_in, write_faces, write_step

KINDS = ("flow", "job", "plate")

# The items behind the word of each command; a `text` at the end is all the rest of the line.
FORMS = {
    "job": ("word",),
    "step": ("word", "text"),
    "unstep": ("word",),
    "plate": ("word", "text"),
    "flow": ("word", "text"),
    "drop": ("kind", "word"),
    "take": ("word", "word", "word", "positive", "number"),
    "cancel": ("word",),
    "deliver": ("word", "number"),
    "finish": ("word", "text"),
    "stock": (),
    "orders": (),
    "read": ("word",),
    "makes": ("word",),
    "alike": ("word", "word"),
    "show": ("word",),
    "least": ("word", "positive"),
    "fold": ("text", "text"),
    "undo": (),
}


def must_hold(right):
    """Raise BadText if a line has not the form that it must have."""
    if not right:
        raise BadText("the line is not a command")


def item_value(form, text):
    """Return the value of an item of a form."""
    if form in ("number", "positive"):
        number = number_in(text)
        must_hold(number is not None and (number > 0 or form == "number"))
        return number
    must_hold(form == "text" or is_word(text))
    must_hold(form != "kind" or text in KINDS)
    return text


def joined(words):
    """Return the text of some words, or `none`."""
    return " ".join(words) if words else "none"


def with_numbers(table):
    """Return the text of the words of a dict with their numbers."""
    return joined([f"{word}:{table[word]}" for word in sorted(table)])


def do_job(shop, word):
    """Set the job book without steps."""
    shop.set_job(word, ())
    return ["ok"]


def do_step(shop, word, text):
    """Put a step behind those of a job book."""
    step = step_in(text)
    must_hold(step is not None)
    shop.set_job(word, shop.thing("job", word) + (step,))
    return ["ok"]


def do_unstep(shop, word):
    """Take the last step of a job book away."""
    job = shop.thing("job", word)
    shop.set_job(word, without_step(job, len(job) - 1))
    return ["ok"]


def do_plate(shop, word, text):
    """Set a plate."""
    shop.set_plate(word, read_plate(text))
    return ["ok"]


def do_flow(shop, word, text):
    """Set a flow."""
    shop.set_flow(word, read_flow(text))
    return ["ok"]


def do_drop(shop, kind, word):
    """Drop what is kept under a word."""
    shop.drop(kind, word)
    return ["ok"]


def do_take(shop, word, job, flow, copies, due):
    """Take an order."""
    shop.take(word, job, flow, copies, due)
    return ["ok"]


def do_cancel(shop, word):
    """Cancel an order."""
    shop.cancel(word)
    return ["ok"]


def do_deliver(shop, word, sheets):
    """Deliver sheets to the stock."""
    shop.deliver(word, sheets)
    return ["ok"]


def do_finish(shop, word, text):
    """Finish an order, and tell how many copies came out."""
    course = () if text == "none" else tuple(number_in(part) for part in text.split(","))
    must_hold(None not in course)
    return [str(shop.finish(word, course))]


def do_stock(shop):
    """Tell the stock."""
    return [with_numbers(shop.stock())]


def do_orders(shop):
    """Tell the words of the open orders."""
    return [joined([order[0] for order in shop.open_orders()])]


def do_read(shop, word):
    """Tell the faces of the book of an order."""
    return [write_faces(shop.book_of(word))]


def do_makes(shop, word):
    """Tell how many faces a job book makes."""
    return [str(len(makes(shop.thing("job", word))))]


def do_alike(shop, word, other):
    """Tell whether two job books are alike."""
    first = shop.thing("job", word)
    return ["yes" if alike_jobs(first, shop.thing("job", other)) else "no"]


def do_show(shop, word):
    """Tell the steps of a job book."""
    return [write_step(step) for step in shop.thing("job", word)]


def do_least(shop, word, wanted):
    """Tell the least supply of a flow."""
    return [with_numbers(least_supply(shop.thing("flow", word), wanted))]


def do_fold(_, size_text, folds_text):
    """Tell the order of the layers after a row of folds."""
    size = pair_in(size_text)
    folds = tuple(fold_of(part.split(" ")) for part in folds_text.split(", "))
    must_hold(is_size(size) and all(is_fold(fold) for fold in folds))
    return [" ".join([f"{row}.{column}" for row, column in order_of(size, folds)])]


def do_undo(shop):
    """Take back the last deed."""
    shop.undo()
    return ["ok"]


DEEDS = {
    "job": do_job,
    "step": do_step,
    "unstep": do_unstep,
    "plate": do_plate,
    "flow": do_flow,
    "drop": do_drop,
    "take": do_take,
    "cancel": do_cancel,
    "deliver": do_deliver,
    "finish": do_finish,
    "stock": do_stock,
    "orders": do_orders,
    "read": do_read,
    "makes": do_makes,
    "alike": do_alike,
    "show": do_show,
    "least": do_least,
    "fold": do_fold,
    "undo": do_undo,
}


def answer(shop, line):
    """Return the list of texts with which a shop answers a line; it raises what the shop raises."""
    command = line.partition(" ")[0]
    must_hold(command in FORMS)
    forms = FORMS[command]
    items = line.split(" ", len(forms))
    # Without forms nothing is split off: then the line must be the command alone.
    must_hold(items[0] == command and len(items) == len(forms) + 1)
    values = [item_value(form, item) for form, item in zip(forms, items[1:])]
    deed = DEEDS[command]
    return deed(shop, *values)


class Console:
    """A shop without stock that is led by lines of text."""

    def __init__(self):
        self.shop = Shop({})

    def enter(self, line):
        """Return the list of texts with which a line is answered."""
        try:
            return answer(self.shop, line)
        except ShopError as error:
            name = type(error).__name__
            return [f"error {name}"]
