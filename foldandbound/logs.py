"""What was done with things, and what must be printed anew (part 19)."""

from foldandbound.errors import NoThing
from foldandbound.forms import is_ascending, is_between, is_tagged, is_word
from foldandbound.sheets import LAST_PAGE

MOST_ENTRIES = 60
MOST_TOGETHER = 8


def is_pages(value):
    """Tell whether any value is an ascending tuple of page numbers."""
    if type(value) is not tuple or not all(is_between(page, 1, LAST_PAGE) for page in value):
        return False
    return is_ascending(value)


def is_names(value, fewest):
    """Tell whether any value is a tuple of different words, of so many at least and of 8 at most."""
    if type(value) is not tuple or not fewest <= len(value) <= MOST_TOGETHER:
        return False
    return all(is_word(name) for name in value) and len(set(value)) == len(value)


def is_entry(value):
    """Tell whether any value has the form of an entry, whatever things there are."""
    if is_tagged(value, "sent", 2):
        return is_word(value[1])
    if is_tagged(value, "printed", 3):
        return is_word(value[1]) and is_pages(value[2])
    if is_tagged(value, "joined", 3):
        return is_word(value[1]) and is_names(value[2], 1)
    return is_tagged(value, "split", 3) and is_word(value[1]) and is_names(value[2], 2)


def used_by(entry):
    """Return the tuple of the names of the things that are no longer there after an entry."""
    if entry[0] == "printed":
        return ()
    return entry[2] if entry[0] == "joined" else (entry[1],)


def made_by(entry):
    """Return the tuple of the names of the things that are there from an entry on."""
    if entry[0] == "sent":
        return ()
    return entry[2] if entry[0] == "split" else (entry[1],)


def is_log(value):
    """Tell whether any value is a log."""
    if type(value) is not tuple or len(value) > MOST_ENTRIES or not all(is_entry(entry) for entry in value):
        return False
    there = {}
    for entry in value:
        for name in used_by(entry):
            if not there.get(name, False):
                return False
            there[name] = False
        for name in made_by(entry):
            # Also a name of a thing that is gone: each is made once.
            if name in there:
                return False
            there[name] = True
    return True


def sheets_in(log):
    """Return the dict from the names of all things to dicts of the names of the sheets in them."""
    found = {}
    for entry in log:
        sheets = {entry[1]: True} if entry[0] == "printed" else {}
        for name in used_by(entry):
            sheets.update(found[name])
        for name in made_by(entry):
            found[name] = sheets
    return found


def pages_of(log):
    """Return the dict from the names of the sheets to their pages."""
    return {entry[1]: entry[2] for entry in log if entry[0] == "printed"}


def pages_on(log, sheets):
    """Return the ascending list of the pages of some sheets."""
    pages = pages_of(log)
    return sorted({page for sheet in sheets for page in pages[sheet]})


def holds(log, name):
    """Return the ascending list of the pages in a thing."""
    found = sheets_in(log)
    if name not in found:
        raise NoThing("no thing of this name was made")
    return pages_on(log, found[name])


def names_sent(log):
    """Return the list of the names of the things that were sent."""
    return [entry[1] for entry in log if entry[0] == "sent"]


def names_there(log):
    """Return the list of the names of the things that are there."""
    used = {name: True for entry in log for name in used_by(entry)}
    return [name for entry in log for name in made_by(entry) if name not in used]


def spoilt_by(log, page):
    """Return the names of the things with a page that were sent, and of those that are there."""
    found = sheets_in(log)
    pages = pages_of(log)
    spoilt = {name: True for name in found if any(page in pages[sheet] for sheet in found[name])}
    sent = sorted([name for name in names_sent(log) if name in spoilt])
    return (sent, sorted([name for name in names_there(log) if name in spoilt]))


def anew(log, page):
    """Return the ascending list of the pages that must be printed anew if a page is wrong."""
    found = sheets_in(log)
    sent, there = spoilt_by(log, page)
    return pages_on(log, [sheet for name in sent + there for sheet in found[name]])
