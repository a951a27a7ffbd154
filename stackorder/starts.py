"""The starts of a plan: the sets of rules that can be the first ones of a legal order."""

from stackorder.follows import active_names, follows_of


def needs_of(plan):
    """A dict from each active name, ascending, to the active names that it follows."""
    active = active_names(plan)
    pairs = follows_of(plan)
    return {name: [first for first, second in pairs if second == name and first in active] for name in active}


def next_names(needs, start):
    """The ascending list of the names outside the start whose needs are all in it."""
    outside = [name for name in needs if name not in start]
    return [name for name in outside if all([first in start for first in needs[name]])]


def last_names(needs, start):
    """The ascending list of the names of the start that no other one of it needs."""
    return [name for name in start if not any([name in needs[other] for other in start])]


def grown(start, name):
    """The start with the name, too."""
    return tuple(sorted([*start, name]))


def without(start, name):
    """The start without the name."""
    return tuple([other for other in start if other != name])


def starts_of(plan):
    needs = needs_of(plan)
    found = {(): True}
    waiting = [()]
    while waiting:
        start = waiting.pop()
        for name in next_names(needs, start):
            longer = grown(start, name)
            if longer not in found:
                found[longer] = True
                waiting.append(longer)
    return tuple(sorted(found))


def next_after(plan, start):
    return tuple(next_names(needs_of(plan), start))


def last_of(plan, start):
    return tuple(last_names(needs_of(plan), start))
