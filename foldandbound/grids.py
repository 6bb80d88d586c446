"""Grids of points, and traps that leave no white gap between two plates (part 20)."""

from foldandbound.forms import is_between, is_tuple_of

LONGEST_ROW = 40


def is_grid(value):
    """Tell whether any value is a grid."""
    if type(value) is not tuple or not 1 <= len(value) <= LONGEST_ROW or type(value[0]) is not tuple:
        return False
    columns = len(value[0])
    if not 1 <= columns <= LONGEST_ROW:
        return False
    return all(is_tuple_of(row, columns) and all(is_between(point, 0, 1) for point in row) for row in value)


def turned_over(rows):
    """Return the columns of a grid as rows."""
    return tuple(zip(*rows))


def spread_row(row, k):
    """Return a row in which a point is 1 if the row has a 1 at most k places away."""
    return tuple(max(row[max(0, at - k):at + k + 1]) for at in range(len(row)))


def spread(grid, k):
    """Return a grid in which a point is 1 if the grid has a 1 at most k rows and k columns away."""
    wider = [spread_row(row, k) for row in grid]
    return turned_over([spread_row(column, k) for column in turned_over(wider)])


def shrunk_row(row, k):
    """Return a row in which a point is 1 if the row has only 1 up to k places away, all of them in it."""
    return tuple(min(row[at - k:at + k + 1]) if k <= at < len(row) - k else 0 for at in range(len(row)))


def shrunk(grid, k):
    """Return a grid in which a point is 1 if the grid has only 1 up to k rows and k columns away."""
    narrower = [shrunk_row(row, k) for row in grid]
    return turned_over([shrunk_row(column, k) for column in turned_over(narrower)])


def moved_row(row, by):
    """Return a row with each point moved to the right."""
    return tuple(row[at - by] if 0 <= at - by < len(row) else 0 for at in range(len(row)))


def moved_grid(grid, down, right):
    """Return a grid with each 1 moved by so many rows and columns."""
    beside = [moved_row(row, right) for row in grid]
    return turned_over([moved_row(column, down) for column in turned_over(beside)])


def first_gap(drawn_ground, drawn_figure, ground, figure):
    """Return the first point that was drawn and is on neither of two plates, or None."""
    for row, points in enumerate(zip(drawn_ground, drawn_figure, ground, figure)):
        for column, (below, above, first, second) in enumerate(zip(points[0], points[1], points[2], points[3])):
            if below + above > 0 and first + second == 0:
                return (row, column)
    return None


def shifts_up_to(k):
    """Return the list of the shifts by at most k rows and columns, the least ones first."""
    steps = list(range(-k, k + 1))
    keyed = [(max(abs(down), abs(right)), down, right) for down in steps for right in steps]
    return [(down, right) for _, down, right in sorted(keyed)]


def useful_shift(grid, k):
    """Return the greatest number up to k that a shift needs: by more, all of a plate is away anyway."""
    return min(k, max(len(grid), len(grid[0])))


def traps(drawn_ground, drawn_figure, ground, figure, k):
    """Return the paper that no shift of the figure's plate leaves a gap, or the least shift that does."""
    for shift in shifts_up_to(useful_shift(figure, k)):
        moved = moved_grid(figure, shift[0], shift[1])
        point = first_gap(drawn_ground, drawn_figure, ground, moved)
        if point is not None:
            return ("gap", shift, point)
    return ("closed",)


def least_spread(drawn_ground, drawn_figure, ground, k):
    """Return the least spread of the figure, up to k, that leaves no gap for shifts up to k, or None."""
    for wide in range(useful_shift(drawn_figure, k) + 1):
        paper = traps(drawn_ground, drawn_figure, ground, spread(drawn_figure, wide), k)
        if paper[0] == "closed":
            return wide
    return None
