"""Jobs that are printed and bound, and presses that are washed between inks (part 16)."""


def makespan(jobs, sequence):
    """Return the minute in which the last job is bound."""
    by_word = {word: (first, second) for word, first, second in jobs}
    printed, bound = 0, 0
    for word in sequence:
        first, second = by_word[word]
        printed += first
        bound = max(printed, bound) + second
    return bound


def best_sequence(jobs):
    """Return a sequence with the least makespan, by Johnson's rule.

    Jobs that are printed faster than bound go first, the fastest printed of them in front;
    the others follow, the fastest bound of them at the end.
    """
    early = sorted([(first, word) for word, first, second in jobs if first <= second])
    late = sorted([(second, word) for word, first, second in jobs if first > second], reverse=True)
    return tuple(word for _, word in early + late)


def least_makespan(jobs):
    """Return the least makespan of any sequence."""
    return makespan(jobs, best_sequence(jobs))


def washing_between(inks, washing, word, other):
    """Return the minutes of washing between two jobs, one behind the other."""
    if inks[word] == inks[other]:
        return 0
    return washing[(inks[word], inks[other])]


def washed(inks, washing, sequence):
    """Return the minutes of washing in all in a sequence."""
    return sum([washing_between(inks, washing, word, other) for word, other in zip(sequence, sequence[1:])])


def washing_left(inks, washing):
    """Return the dict from what is left to do, and the job before it, to the least minutes of washing from there.

    What is left is told by a number that has a bit for each job in ascending order; a job by its place.
    """
    words = sorted(inks)
    least = {}
    for left in range(1 << len(words)):
        jobs = [k for k in range(len(words)) if left >> k & 1]
        for before, word in enumerate(words):
            minutes = [washing_between(inks, washing, word, words[k]) + least[(left - (1 << k), k)] for k in jobs]
            least[(left, before)] = min(minutes) if minutes else 0
    return least


def washing_sequence(inks, washing):
    """Return the first sequence with the least minutes of washing."""
    words = sorted(inks)
    least = washing_left(inks, washing)
    sequence = []
    left = (1 << len(words)) - 1
    while left > 0:
        choices = []
        for k, word in enumerate(words):
            if left >> k & 1:
                minutes = washing_between(inks, washing, sequence[-1], word) if sequence else 0
                choices.append((minutes + least[(left - (1 << k), k)], k))
        _, chosen = min(choices)
        sequence.append(words[chosen])
        left -= 1 << chosen
    return tuple(sequence)


def least_washing(inks, washing):
    """Return the least minutes of washing of any sequence."""
    return washed(inks, washing, washing_sequence(inks, washing))
