"""Steps read from lines."""

from stackorder.clausereadings import clause_read, fraction_or_none
from stackorder.errors import InvalidText
from stackorder.kinds import is_name
from stackorder.steps import PART_KINDS

SWITCH_WORDS = {"on": True, "off": False}


def clause_or_none(word):
    """The clause that the word writes, or None if it writes none."""
    try:
        return clause_read(word)
    except InvalidText:
        return None


def part_or_none(kind, word):
    """The part of this kind that the word writes, or None if it writes none."""
    if kind == "name":
        return word if is_name(word) else None
    if kind == "bool":
        return SWITCH_WORDS.get(word)
    if kind == "fraction":
        return fraction_or_none(word)
    return clause_or_none(word)


def line_read(text, line):
    """The step that the line with this number writes."""
    words = text.split(" ")
    kinds = PART_KINDS.get(words[0])
    if kinds is None:
        raise InvalidText(line, 0)
    step = [words[0]]
    for kind, word in zip(kinds, words[1:]):
        part = part_or_none(kind, word)
        if part is None:
            raise InvalidText(line, len(step))
        step.append(part)
    # Now either a word is missing behind the step, or one is left over there.
    if len(words) != len(kinds) + 1:
        raise InvalidText(line, len(step))
    return tuple(step)


def read_step(text):
    return line_read(text, 0)


def read_log(lines):
    return tuple([line_read(text, line) for line, text in enumerate(lines)])
