"""Days in which chance moves against the shop (part 27).

A day can be held exactly if no span of hours is too short for the jobs that may have to be done
wholly in it, with all failures and all jobs that are sent back in it too. Then the shop holds it
if it always works on the job that is due first: if one came late, the hours before, back to the
last one in which no job due as early was there, would be such a span. And if there is such a span,
chance lets papers come as late as they may, and uses it up.
"""

from foldandbound.forms import is_between, is_integer, is_natural, is_tagged, is_tuple_of, is_word

MOST_HOURS = 12
MOST_JOBS = 4
MOST_WORK = 6
MOST_FAILURES = 3
MOST_RETURNS = 2
NO_JOB = -1


def is_job_of_day(hours, value):
    """Tell whether any value is a job of a day with so many hours."""
    if not is_tuple_of(value, 5) or not is_word(value[0]) or not is_between(value[1], 1, MOST_WORK):
        return False
    _, _, first, last, due = value
    if not is_between(last, 0, hours - 1) or not is_between(first, 0, last):
        return False
    return is_between(due, 1, hours)


def is_day(value):
    """Tell whether any value is a day."""
    if not is_tuple_of(value, 4) or not is_between(value[0], 1, MOST_HOURS):
        return False
    hours, jobs, failures, returns = value
    if type(jobs) is not tuple or not 1 <= len(jobs) <= MOST_JOBS:
        return False
    if not all(is_job_of_day(hours, job) for job in jobs) or len({job[0] for job in jobs}) < len(jobs):
        return False
    return is_between(failures, 0, MOST_FAILURES) and is_between(returns, 0, MOST_RETURNS)


def first_state(day):
    """Return the state at the beginning of a day."""
    _, jobs, failures, returns = day
    return (0, tuple((0, job[1]) for job in jobs), failures, returns)


def moves_in(day, state):
    """Return the list of the moves of chance in a state."""
    hour, left, failures, _ = state
    papers = [()]
    for k, job in enumerate(day[1]):
        if left[k][0] == 0 and job[2] <= hour:
            more = [some + (k,) for some in papers]
            papers = more if job[3] == hour else papers + more
    return [(some, fails) for some in papers for fails in range(min(failures, 1) + 1)]


def with_papers(left, papers):
    """Return what is left of the jobs after some papers came."""
    return tuple((1, work) if k in papers else (there, work) for k, (there, work) in enumerate(left))


def choices_in(state, move):
    """Return the ascending list of the choices of the shop after a move of chance."""
    left = with_papers(state[1], move[0])
    return [NO_JOB] + [k for k, (there, work) in enumerate(left) if there == 1 and work > 0]


def may_come_back(state, move, choice):
    """Tell whether chance may send a job back at the end of an hour."""
    return choice != NO_JOB and move[1] == 0 and state[1][choice][1] == 1 and state[3] > 0


def state_after(state, move, choice, back):
    """Return the state that follows."""
    hour, left, failures, returns = state
    papers, fails = move
    left = with_papers(left, papers)
    if choice != NO_JOB and fails == 0:
        left = left[:choice] + ((1, left[choice][1] - 1 + back),) + left[choice + 1:]
    return (hour + 1, left, failures - fails, returns - back)


def states_after(state, move, choice):
    """Return the list of the states that can follow."""
    backs = [0, 1] if may_come_back(state, move, choice) else [0]
    return [state_after(state, move, choice, back) for back in backs]


def lost_by(day, state):
    """Return the number of the first job by which the day is lost when a state begins, or None."""
    for k, job in enumerate(day[1]):
        if job[4] == state[0] and state[1][k][1] > 0:
            return k
    return None


def jobs_within(day, start, end):
    """Return the list of the numbers of the jobs that may have to be done wholly between two hours."""
    return [k for k, job in enumerate(day[1]) if start <= job[3] and job[4] <= end]


def short_span(day):
    """Return the first pair of hours between which there may be too much to do, or None."""
    _, jobs, failures, returns = day
    for end in sorted([job[4] for job in jobs]):
        for start in sorted([job[3] for job in jobs]):
            work = sum([jobs[k][1] for k in jobs_within(day, start, end)])
            if work > 0 and work + failures + returns > end - start:
                return (start, end)
    return None


def can_be_held(day):
    """Tell whether the shop can hold a day, whatever chance does."""
    return short_span(day) is None


def first_due(day, state, move):
    """Return the choice of the job that is due first, or of none."""
    jobs = [k for k in choices_in(state, move) if k != NO_JOB]
    return min(jobs, key=lambda k: day[1][k][4]) if jobs else NO_JOB


def keeps_in_time(day, state, move, choice):
    """Tell whether a choice can be made and nothing that follows is lost."""
    if choice not in choices_in(state, move):
        return False
    return all(lost_by(day, after) is None for after in states_after(state, move, choice))


def will_of(day, choose):
    """Return the closed will of a shop that chooses by a function, or None if it is not closed."""
    entries = []
    known = {first_state(day): True}
    waiting = list(known)
    while waiting:
        state = waiting.pop()
        for move in moves_in(day, state):
            choice = choose(state, move)
            if not keeps_in_time(day, state, move, choice):
                return None
            entries.append((state, move, choice))
            for after in states_after(state, move, choice):
                if after[0] < day[0] and after not in known:
                    known[after] = True
                    waiting.append(after)
    return tuple(sorted(entries))


def answers_to(day, span, state, move, known):
    """Return the answers of chance to all choices of the shop in a course that uses up a span."""
    answers = []
    for choice in choices_in(state, move):
        within = choice in jobs_within(day, span[0], span[1])
        back = 1 if within and may_come_back(state, move, choice) else 0
        after = state_after(state, move, choice, back)
        rest = lost_by(day, after)
        if rest is None:
            rest = course_from(day, span, after, known)
        answers.append((choice, back, rest))
    return tuple(answers)


def course_from(day, span, state, known):
    """Return the course for a state in which chance uses up a span that is too short."""
    if state not in known:
        # The first move lets as few papers come as it can, and the press not fail.
        papers = moves_in(day, state)[0][0]
        move = (papers, 1 if state[0] >= span[0] and state[2] > 0 else 0)
        known[state] = (move, answers_to(day, span, state, move, known))
    return known[state]


def day_paper(day):
    """Return the paper that a day can be held, or how chance makes the shop lose it."""
    span = short_span(day)
    if span is None:
        return ("held", will_of(day, lambda state, move: first_due(day, state, move)))
    return ("lost", course_from(day, span, first_state(day), {}))


def is_move(value):
    """Tell whether any value has the form of a move."""
    if not is_tuple_of(value, 2) or type(value[0]) is not tuple or len(value[0]) > MOST_JOBS:
        return False
    return all(is_natural(paper) for paper in value[0]) and is_integer(value[1])


def is_state(value):
    """Tell whether any value has the form of a state."""
    if not is_tuple_of(value, 4) or type(value[1]) is not tuple or len(value[1]) > MOST_JOBS:
        return False
    if not all(is_tuple_of(pair, 2) and is_integer(pair[0]) and is_integer(pair[1]) for pair in value[1]):
        return False
    return is_integer(value[0]) and is_integer(value[2]) and is_integer(value[3])


def is_will_entry(value):
    """Tell whether any value has the form of an entry of a will."""
    return is_tuple_of(value, 3) and is_state(value[0]) and is_move(value[1]) and is_integer(value[2])


def is_closed_will(day, value):
    """Tell whether any value is a closed will for a day: it is then the one of its own choices."""
    if type(value) is not tuple or not all(is_will_entry(entry) for entry in value):
        return False
    choices = {(state, move): choice for state, move, choice in value}
    return will_of(day, lambda state, move: choices.get((state, move))) == value


def is_answer(state, move, choice, value):
    """Tell whether any value has the form of the answer of chance to a choice, whatever its rest is."""
    if not is_tuple_of(value, 3) or not is_integer(value[0]) or value[0] != choice:
        return False
    return is_between(value[1], 0, 1 if may_come_back(state, move, choice) else 0)


def is_course_of_day(day, value):
    """Tell whether any value is a course for the first state of a day."""
    waiting = [(first_state(day), value)]
    while waiting:
        state, course = waiting.pop()
        if state[0] == day[0] or not is_tuple_of(course, 2) or not is_move(course[0]):
            return False
        move, answers = course
        choices = choices_in(state, move)
        if move not in moves_in(day, state) or not is_tuple_of(answers, len(choices)):
            return False
        for choice, answer in zip(choices, answers):
            if not is_answer(state, move, choice, answer):
                return False
            after = state_after(state, move, choice, answer[1])
            lost = lost_by(day, after)
            if lost is None:
                waiting.append((after, answer[2]))
            elif not is_integer(answer[2]) or answer[2] != lost:
                return False
    return True


def check_day(day, value):
    """Tell whether any value is a right day paper."""
    if is_tagged(value, "held", 2):
        return is_closed_will(day, value[1])
    return is_tagged(value, "lost", 2) and is_course_of_day(day, value[1])


def most_failures_held(day):
    """Return the greatest number of failures for which a day can be held, or -1."""
    hours, jobs, _, returns = day
    held = [failures for failures in range(MOST_FAILURES + 1) if can_be_held((hours, jobs, failures, returns))]
    return max(held, default=-1)


def with_later_due(job, later, hours):
    """Return a job that is due later, but not behind the end of the day."""
    return job[:4] + (min(job[4] + later, hours),)


def least_hours(day):
    """Return the least number of hours by which all jobs must be due later to hold a day, or None."""
    hours, jobs, failures, returns = day
    for later in range(hours):
        if can_be_held((hours, tuple(with_later_due(job, later, hours) for job in jobs), failures, returns)):
            return later
    return None
