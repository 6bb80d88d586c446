"""Flows of runs that spoil sheets, and how many sheets they need (part 14)."""

from foldandbound.forms import is_between, is_same, is_tagged, is_tuple_of, is_word

MOST_NODES = 40
MOST_SPOILT = 99
MOST_PARTS = 16
MOST_FLOWS = 6


def is_node(value):
    """Tell whether any value is a node of a flow, whatever the flows below it are."""
    if is_tagged(value, "paper", 2):
        return is_word(value[1])
    if is_tagged(value, "run", 3):
        return is_between(value[1], 0, MOST_SPOILT)
    if is_tagged(value, "split", 3):
        return is_between(value[1], 2, MOST_PARTS)
    if not is_tagged(value, "gather", 3) or not is_between(value[1], 0, MOST_SPOILT):
        return False
    return type(value[2]) is tuple and 1 <= len(value[2]) <= MOST_FLOWS


def flows_below(node):
    """Return the tuple of the flows below a node."""
    if node[0] == "paper":
        return ()
    return node[2] if node[0] == "gather" else (node[2],)


def is_flow(value):
    """Tell whether any value is a flow of at most 40 nodes."""
    words = []
    nodes = 0
    waiting = [value]
    while waiting:
        node = waiting.pop()
        nodes += 1
        if nodes > MOST_NODES or not is_node(node):
            return False
        if node[0] == "paper":
            words.append(node[1])
        waiting.extend(flows_below(node))
    return len(set(words)) == len(words)


def nodes_of(flow):
    """Return the list of the nodes of a flow, each before those below it, and these from the left."""
    nodes = []
    waiting = [flow]
    while waiting:
        node = waiting.pop()
        nodes.append(node)
        waiting.extend(flows_below(node)[::-1])
    return nodes


def is_run(node):
    """Tell whether a node spoils something."""
    return node[0] in ("run", "gather")


def runs_of(flow):
    """Return the list of the runs of a flow, in their order."""
    return [node for node in nodes_of(flow) if is_run(node)]


def worst_course(flow):
    """Return the course in which each run spoils its most: nothing less comes out in any other one."""
    return tuple(run[1] for run in runs_of(flow))


def all_outputs(flow, supply, course):
    """Return the list of what comes out of each node of a flow, in their order."""
    outputs = []
    # What comes out of the nodes whose own node above was not met yet, the leftmost one last.
    ready = []
    spoilt = list(course)
    for node in nodes_of(flow)[::-1]:
        below = [ready.pop() for _ in flows_below(node)]
        if node[0] == "paper":
            output = supply[node[1]]
        elif node[0] == "split":
            output = node[1] * below[0]
        else:
            output = max(0, min(below) - spoilt.pop())
        ready.append(output)
        outputs.append(output)
    return outputs[::-1]


def comes_out(flow, supply, course):
    """Return what comes out of a flow."""
    return all_outputs(flow, supply, course)[0]


def safe_numbers(flow, supply):
    """Return the tuple of what comes out of each run if each one spoils its most."""
    outputs = all_outputs(flow, supply, worst_course(flow))
    return tuple(output for node, output in zip(nodes_of(flow), outputs) if is_run(node))


def numbered_below(node, number):
    """Return the list of the flows directly below a node, each with the number of its root.

    The nodes are numbered in their order; the number of the node itself is told.
    """
    numbered = []
    number += 1
    for flow in flows_below(node):
        numbered.append((flow, number))
        number += len(nodes_of(flow))
    return numbered


def best_below(numbered, target, supply, known):
    """Return the best of some numbered flows to spoil, so that at most a target comes out of one of them.

    It is a triple of what must be spoilt in it at least, the flow and its number; None if there is none.
    """
    best = None
    for flow, number in numbered:
        choice = best_choice(flow, number, target, supply, known)
        # Of equal ones the last one: the course is the first one if those before spoil nothing.
        if choice is not None and (best is None or choice[0] <= best[0]):
            best = (choice[0], flow, number)
    return best


def choice_at_run(node, numbered, target, supply, known):
    """Return the best choice at a run (see `best_choice`), or None."""
    best = None
    for spoils in range(node[1] + 1):
        if best is not None and spoils >= best[0]:
            break
        below = best_below(numbered, target + spoils, supply, known)
        if below is not None and (best is None or spoils + below[0] < best[0]):
            best = (spoils + below[0], spoils, below[1], below[2])
    return best


def best_choice(node, number, target, supply, known):
    """Return the best way to have at most a target come out of a node, or None if there is none.

    It is a tuple of what must be spoilt at least from the node downwards, what the node spoils of
    it, as little as it can, and the flow below that spoils the rest, with its number.
    """
    if node[0] == "paper":
        return (0, 0, None, None) if supply[node[1]] <= target else None
    key = (number, target)
    if key not in known:
        numbered = numbered_below(node, number)
        if node[0] == "split":
            below = best_below(numbered, target // node[1], supply, known)
            known[key] = None if below is None else (below[0], 0, below[1], below[2])
        else:
            known[key] = choice_at_run(node, numbered, target, supply, known)
    return known[key]


def short_course(flow, supply, wanted):
    """Return the best course in which fewer than a wanted number come out, where there is one."""
    spoilt = {}
    known = {}
    node, number, target = flow, 0, wanted - 1
    while node[0] != "paper":
        _, spoils, below, below_number = best_choice(node, number, target, supply, known)
        spoilt[number] = spoils
        target = target // node[1] if node[0] == "split" else target + spoils
        node, number = below, below_number
    return tuple(spoilt.get(at, 0) for at, one in enumerate(nodes_of(flow)) if is_run(one))


def safe_paper(flow, supply, wanted):
    """Return the paper that a supply is safe for a wanted number, or a course in which it is short."""
    if comes_out(flow, supply, worst_course(flow)) >= wanted:
        return ("safe", safe_numbers(flow, supply))
    return ("short", short_course(flow, supply, wanted))


def is_course(flow, value):
    """Tell whether any value is a course that can be for a flow."""
    runs = runs_of(flow)
    if not is_tuple_of(value, len(runs)):
        return False
    return all(is_between(spoils, 0, run[1]) for spoils, run in zip(value, runs))


def check_safe(flow, supply, wanted, value):
    """Tell whether any value is a right paper about a supply and a wanted number."""
    if is_tagged(value, "safe", 2):
        safe = comes_out(flow, supply, worst_course(flow)) >= wanted
        return safe and is_same(value[1], safe_numbers(flow, supply))
    if not is_tagged(value, "short", 2) or not is_course(flow, value[1]):
        return False
    return comes_out(flow, supply, value[1]) < wanted


def least_supply(flow, wanted):
    """Return the least safe supply for a wanted number."""
    supply = {}
    waiting = [(flow, wanted)]
    while waiting:
        node, needed = waiting.pop()
        if node[0] == "paper":
            supply[node[1]] = needed
        elif node[0] == "split":
            waiting.append((node[2], -(-needed // node[1])))
        else:
            for below in flows_below(node):
                waiting.append((below, needed + node[1]))
    return supply
