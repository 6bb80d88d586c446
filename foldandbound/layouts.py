"""Layouts of pieces on a board, and how they are cut from edge to edge (part 10)."""

from foldandbound.errors import BadTree
from foldandbound.forms import is_between, is_integer, is_natural, is_one_of, is_tagged, is_tuple_of

LONGEST_SIDE = 1000
MOST_PIECES = 30
CUT_AXES = ("x", "y")


def is_board(value):
    """Tell whether any value is a board."""
    return is_tuple_of(value, 2) and all(is_between(side, 1, LONGEST_SIDE) for side in value)


def is_piece(value):
    """Tell whether any value has the form of a piece."""
    if not is_tuple_of(value, 4) or not all(is_natural(number) for number in value):
        return False
    return value[2] >= 1 and value[3] >= 1


def whole_board(board):
    """Return the part that is the whole board."""
    return (0, 0, board[0], board[1])


def span(part, axis):
    """Return the two edges of a part on an axis: left and right, or top and bottom."""
    left, top, width, height = part
    return (left, left + width) if axis == "x" else (top, top + height)


def lies_in(part, other):
    """Tell whether a part lies in another one, with all of it."""
    for axis in CUT_AXES:
        low, high = span(part, axis)
        other_low, other_high = span(other, axis)
        if low < other_low or other_high < high:
            return False
    return True


def overlap(part, other):
    """Tell whether two parts share more than edges."""
    for axis in CUT_AXES:
        low, high = span(part, axis)
        other_low, other_high = span(other, axis)
        if high <= other_low or other_high <= low:
            return False
    return True


def is_layout(value):
    """Tell whether any value is a layout."""
    if not is_tuple_of(value, 2) or not is_board(value[0]):
        return False
    board, pieces = value
    if type(pieces) is not tuple or len(pieces) > MOST_PIECES:
        return False
    if not all(is_piece(piece) and lies_in(piece, whole_board(board)) for piece in pieces):
        return False
    return not any(overlap(pieces[i], pieces[j]) for i in range(len(pieces)) for j in range(i))


def cuts_inside(part, axis, at):
    """Tell whether a line runs strictly between the edges of a part."""
    low, high = span(part, axis)
    return low < at < high


def cut_part(part, axis, at):
    """Return the two parts into which a line cuts a part."""
    left, top, width, height = part
    if axis == "x":
        return ((left, top, at - left, height), (at, top, left + width - at, height))
    return ((left, top, width, at - top), (left, at, width, top + height - at))


def pieces_in(part, numbers, pieces):
    """Return the list of those numbers of pieces that lie in a part."""
    return [k for k in numbers if lies_in(pieces[k], part)]


def gaps_of(pieces, axis):
    """Return the list of the gaps `(low, high)` between some pieces: the free lines with pieces on both sides."""
    spans = sorted([span(piece, axis) for piece in pieces])
    found = []
    end = spans[0][1]
    for low, high in spans[1:]:
        if end <= low:
            found.append((end, low))
        end = max(end, high)
    return found


def trimming_line(part, piece):
    """Return a line `(axis, at)` along an edge of the only piece in a part, or None if it fills the part."""
    for axis in CUT_AXES:
        for at in span(piece, axis):
            if cuts_inside(part, axis, at):
                return (axis, at)
    return None


def useful_line(part, inside):
    """Return a free line `(axis, at)` of a part that brings its pieces nearer to be cut out, or None."""
    if len(inside) == 1:
        return trimming_line(part, inside[0])
    for axis in CUT_AXES:
        gaps = gaps_of(inside, axis)
        if gaps:
            return (axis, gaps[0][0])
    return None


def paper_for(part, numbers, pieces):
    """Return a cutting paper for a part in which the pieces of some numbers lie."""
    if not numbers:
        return ("cuts", ("waste",))
    if len(numbers) == 1 and pieces[numbers[0]] == part:
        return ("cuts", ("piece", numbers[0]))
    line = useful_line(part, [pieces[k] for k in numbers])
    if line is None:
        return ("stuck", part)
    axis, at = line
    trees = []
    # Any free line will do: pieces that can be cut out of a part can be cut out of what is left of it.
    for half in cut_part(part, axis, at):
        paper = paper_for(half, pieces_in(half, numbers, pieces), pieces)
        if paper[0] == "stuck":
            return paper
        trees.append(paper[1])
    return ("cuts", ("cut", axis, at, trees[0], trees[1]))


def cutting_paper(layout):
    """Return a right cutting paper for a layout."""
    board, pieces = layout
    return paper_for(whole_board(board), list(range(len(pieces))), pieces)


def can_be_cut(layout):
    """Tell whether all pieces of a layout can be cut out from edge to edge."""
    return cutting_paper(layout)[0] == "cuts"


def is_cut_node(value, part):
    """Tell whether any value has the form of a cut of a part, whatever its trees are."""
    if not is_tagged(value, "cut", 5) or not is_one_of(value[1], CUT_AXES) or not is_integer(value[2]):
        return False
    return cuts_inside(part, value[1], value[2])


def is_right_leaf(value, part, numbers, pieces):
    """Tell whether any value is a cut tree without a cut for a part with the pieces of some numbers."""
    if is_tagged(value, "waste", 1):
        return not numbers
    if not is_tagged(value, "piece", 2) or not is_integer(value[1]):
        return False
    return numbers == [value[1]] and pieces[value[1]] == part


def is_cut_tree(layout, value):
    """Tell whether any value is a cut tree for the whole board."""
    board, pieces = layout
    waiting = [(value, whole_board(board), list(range(len(pieces))))]
    while waiting:
        tree, part, numbers = waiting.pop()
        if is_right_leaf(tree, part, numbers, pieces):
            continue
        if not is_cut_node(tree, part):
            return False
        _, axis, at, low, high = tree
        if any(cuts_inside(pieces[k], axis, at) for k in numbers):
            return False
        for half, below in zip(cut_part(part, axis, at), (low, high)):
            waiting.append((below, half, pieces_in(half, numbers, pieces)))
    return True


def is_stuck(layout, value):
    """Tell whether any value is a part whose pieces no free line parts."""
    board, pieces = layout
    if not is_piece(value) or not lies_in(value, whole_board(board)):
        return False
    inside = [piece for piece in pieces if overlap(piece, value)]
    if len(inside) < 2 or not all(lies_in(piece, value) for piece in inside):
        return False
    return not any(gaps_of(inside, axis) for axis in CUT_AXES)


def check_cutting(layout, value):
    """Tell whether any value is a right cutting paper for a layout."""
    if is_tagged(value, "cuts", 2):
        return is_cut_tree(layout, value[1])
    return is_tagged(value, "stuck", 2) and is_stuck(layout, value[1])


def box_of(pieces):
    """Return the least part in which some pieces lie."""
    left = min([piece[0] for piece in pieces])
    top = min([piece[1] for piece in pieces])
    right = max([span(piece, "x")[1] for piece in pieces])
    bottom = max([span(piece, "y")[1] for piece in pieces])
    return (left, top, right - left, bottom - top)


def edges_apart(part, box):
    """Return how many edges of a part are apart from those of a box in it."""
    pairs = [(span(part, axis), span(box, axis)) for axis in CUT_AXES]
    return sum([1 for outer, inner in pairs for at in range(2) if outer[at] != inner[at]])


def fewest_in_part(part, numbers, pieces, known):
    """Return the fewest cuts for a part of a layout that can be cut.

    Some best tree first cuts off the margins around the pieces: in any tree, a leaf lies
    wholly in each of them. So only the box of the pieces matters, which their numbers tell.
    """
    if not numbers:
        return 0
    inside = [pieces[k] for k in numbers]
    box = box_of(inside)
    key = tuple(numbers)
    if key not in known:
        counts = [0] if len(inside) == 1 else []
        for axis in CUT_AXES:
            # A line at the edge of a piece is as good as any other one in its gap.
            for at, _ in gaps_of(inside, axis):
                halves = cut_part(box, axis, at)
                rest = [fewest_in_part(half, pieces_in(half, numbers, pieces), pieces, known) for half in halves]
                counts.append(1 + rest[0] + rest[1])
        known[key] = min(counts)
    return edges_apart(part, box) + known[key]


def fewest_cuts(layout):
    """Return the fewest cuts of a cut tree for the whole board, or None if there is none."""
    if not can_be_cut(layout):
        return None
    board, pieces = layout
    return fewest_in_part(whole_board(board), list(range(len(pieces))), pieces, {})


def pieces_from(board, tree):
    """Return the ascending list of the pieces that a tree tells, each with its number."""
    found = {}
    waiting = [(tree, whole_board(board))]
    while waiting:
        node, part = waiting.pop()
        if node[0] == "piece":
            if node[1] in found:
                raise BadTree("a number stands twice")
            found[node[1]] = part
        elif node[0] == "cut":
            _, axis, at, low, high = node
            if not cuts_inside(part, axis, at):
                raise BadTree("a cut is not inside of its part")
            low_part, high_part = cut_part(part, axis, at)
            waiting.append((low, low_part))
            waiting.append((high, high_part))
    return sorted(found.items())
