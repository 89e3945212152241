"""Plans of freezings: how many steps there can be, and how few freezings do."""

from roundstore.marks import STOP


def worst(tables, *, every, longest):
    """The most steps from the floor to the next number, where tables are frozen in turn and looks are not too long."""
    # Just ahead of its turn a table has waited while each table had one, and its eldest was left that far
    # behind already by the longest look.
    return tables * every + longest


def fewest(rounds, *, room=STOP):
    """A plan with as few freezings as can be, or the first round that can't be passed."""
    found = stages(rounds, room)
    passed = found[-1][0]
    if passed < len(rounds):
        return ("never", passed)
    return ("plan", tuple([at for many, at in found[1:]]))


def reached(rounds, *, room=STOP):
    """How many rounds can be passed with 0, 1, 2 .. freezings, as long as one more helps."""
    return tuple([many for many, at in stages(rounds, room)])


def passes(rounds, some, *, room=STOP):
    """The steps behind each round, where freezing is done ahead of some, up to the first that are above room."""
    told = []
    steps = 0
    for at, (takes, lag) in enumerate(rounds):
        if at in some:
            steps = min(steps, lag)
        steps += takes
        told.append(steps)
        if steps > room:
            break
    return tuple(told)


def stages(rounds, room):
    """With 0, 1, 2 .. freezings: how many rounds can be passed, and ahead of which one the last freezing is done."""
    # The steps behind a round are the least of those counted from the beginning, or from what a freezing ahead
    # of it left. So each freezing lets some rounds pass, from its own on, whatever the others do; and who goes
    # on as far as can be, from wherever the first round stands that isn't passed yet, needs the fewest.
    ends = [end(rounds, at, lag, room) for at, (takes, lag) in enumerate(rounds)]
    found = [(end(rounds, 0, 0, room), None)]
    while found[-1][0] < len(rounds):
        passed = found[-1][0]
        many, at = max([(ends[at], at) for at in range(passed + 1)])
        if many <= passed:
            break
        found.append((many, at))
    return found


def end(rounds, start, steps, room):
    """The first round from the start on that isn't passed, where so many steps stand ahead of the start."""
    for at in range(start, len(rounds)):
        steps += rounds[at][0]
        if steps > room:
            return at
    return len(rounds)
