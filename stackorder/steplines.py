"""Steps as lines: words with single spaces between them."""

from stackorder.clausetexts import clause_text, fraction_text
from stackorder.steps import PART_KINDS


def part_text(kind, part):
    if kind == "name":
        return part
    if kind == "clause":
        return clause_text(part)
    if kind == "bool":
        return "on" if part else "off"
    return fraction_text(part)


def step_line(step):
    word = step[0]
    parts = [part_text(kind, part) for kind, part in zip(PART_KINDS[word], step[1:])]
    return " ".join([word, *parts])


def log_lines(log):
    return [step_line(step) for step in log]
