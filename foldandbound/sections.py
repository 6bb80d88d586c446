"""Documents that are divided into sections (part 6)."""

from foldandbound.errors import NoPage, TooThick


def fewest_for_sums(top, sizes):
    """Return the list of the fewest sections with each sum up to a top one, or None where there are none."""
    fewest = [0]
    for total in range(1, top + 1):
        counts = [fewest[total - size] for size in sizes if size <= total]
        counts = [count for count in counts if count is not None]
        fewest.append(min(counts) + 1 if counts else None)
    return fewest


def best_sections(n, sizes):
    """Return the descending list of the best section sizes for a document of n pages."""
    # Sections of the least size alone have a sum that is less than this much greater.
    fewest = fewest_for_sums(n + min(sizes), sizes)
    total = n
    while fewest[total] is None:
        total += 1
    chosen = []
    while total > 0:
        # The greatest size that some best list has: so the rest has no greater one.
        rest = fewest[total] - 1
        greatest = max([size for size in sizes if size <= total and fewest[total - size] == rest])
        chosen.append(greatest)
        total -= greatest
    return chosen


def nested_pages(s):
    """Return the list of the pages on s nested sheets, from the outermost one."""
    return [(4 * s - 2 * i, 2 * i + 1, 2 * i + 2, 4 * s - 2 * i - 1) for i in range(s)]


def creep(s, t, width, most):
    """Return the list of the widths to which the pages of s nested sheets are laid."""
    if (s - 1) * t > most:
        raise TooThick("the innermost sheet is pushed out too far")
    return [width - i * t for i in range(s)]


def place_of_page(sizes, page):
    """Return the number of the section in which a page is, and its number in it."""
    if page < 1:
        raise NoPage("pages are numbered from 1")
    before = 0
    for section, size in enumerate(sizes):
        if page <= before + size:
            return (section, page - before - 1)
        before += size
    raise NoPage("the sections have no such page")
