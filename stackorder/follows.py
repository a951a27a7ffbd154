"""Which rules of a plan are active, and which rules follow which."""


def active_names(plan):
    return tuple([name for name, _, is_on in plan[0] if is_on])


def seconds_of(pairs):
    """A dict from each first name of the pairs to the list of its second names."""
    seconds = {}
    for first, second in pairs:
        seconds.setdefault(first, []).append(second)
    return seconds


def reached_from(seconds, name):
    """The ascending list of the names to which a way of pairs leads from the name."""
    reached = {}
    waiting = [name]
    while waiting:
        place = waiting.pop()
        for second in seconds.get(place, []):
            if second not in reached:
                reached[second] = True
                waiting.append(second)
    return sorted(reached)


def follows_of(plan):
    rules, pairs = plan
    seconds = seconds_of(pairs)
    # Rules that are off have a place on the ways, too.
    return tuple([(rule[0], second) for rule in rules for second in reached_from(seconds, rule[0])])
