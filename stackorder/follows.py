"""The rules of a plan: which are active, what their clauses are, and which follow which."""


def active_names(plan):
    return tuple([name for name, _, is_on in plan[0] if is_on])


def clauses_of(plan):
    """A dict from the name of each rule to its clause."""
    return {name: clause for name, clause, _ in plan[0]}


def seconds_of(pairs):
    """A dict from each first name of the pairs to the list of its second names."""
    seconds = {}
    for first, second in pairs:
        seconds.setdefault(first, []).append(second)
    return seconds


def reached_from(seconds, name):
    """The ascending list of the names to which a way of pairs leads from the name."""
    reached = {}
    waiting = [name]
    while waiting:
        place = waiting.pop()
        for second in seconds.get(place, []):
            if second not in reached:
                reached[second] = True
                waiting.append(second)
    return sorted(reached)


def follows_of(plan):
    rules, pairs = plan
    seconds = seconds_of(pairs)
    # Rules that are off have a place on the ways, too.
    return tuple([(rule[0], second) for rule in rules for second in reached_from(seconds, rule[0])])
