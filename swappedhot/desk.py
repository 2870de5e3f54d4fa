"""Desks: live programs that are led by lines of text."""

from swappedhot.climbing import climb
from swappedhot.errors import DeskRefused, NothingToUndo, TooMany
from swappedhot.judging import judge
from swappedhot.live import Live
from swappedhot.states import current_instances
from swappedhot.swapping import is_deed
from swappedhot.texts import read_deed, write_deed


class Desk:
    """A live program that is led by lines of text."""

    def __init__(self, graph, rule):
        self.live = Live(graph, rule)
        self.answers = []

    def __call__(self, line):
        _, answer = respond(self.live, line)
        return answer

    def __ior__(self, other):
        # The lines lead a fork, so that nothing has happened yet if one of them is refused.
        fork = self.live.fork()
        answers = []
        for index, line in enumerate(other.split("\n")):
            fine, answer = respond(fork, line)
            if not fine:
                raise DeskRefused(index)
            answers.append(answer)
        self.live.follow(fork)
        self.answers.extend(answers)
        return self


def respond(live, line):
    """Do what a line says; return whether it was known and not refused, and its answer.

    The answer alone does not tell: a module may be called "unknown" or "refused".
    """
    deed = read_deed(line)
    if is_deed(live.graph, deed):
        return respond_to_deed(live, deed)
    if line == "undo":
        return (True, undo_last(live))
    if line == "state":
        return (True, state_line(live.graph, live.state))
    word, *rest = line.split(" ")
    if word == "climb" and len(rest) == 1 and rest[0] in live.graph:
        outdated, _, _, _ = climb(live.graph, live.state, rest[0])
        return (True, " ".join(outdated) if outdated else "nothing")
    return (False, "unknown")


def respond_to_deed(live, deed):
    before = live.state
    try:
        done = live.do(deed)
    except TooMany as refusal:
        return (False, f"refused {refusal.what}")
    if deed[0] == "fire":
        return (True, joined([call_text(call) for call in done.calls], "no calls"))
    faults = judge(live.graph, live.rule, before, deed)
    return (True, joined([fault_text(fault) for fault in faults], "ok"))


def joined(parts, nothing):
    """Return the parts of an answer in one line, or what stands for none."""
    return ", ".join(parts) if parts else nothing


def call_text(call):
    owner, edition, called, called_edition, word = call
    if called == "":
        return f"{owner} {edition} > none"
    told = f"{owner} {edition} > {called} {called_edition}"
    return f"{told} {word}" if word else told


def fault_text(fault):
    kind, name = fault
    return f"{kind} {name}" if name else kind


def undo_last(live):
    try:
        deed = live.undo()
    except NothingToUndo:
        return "nothing to undo"
    return f"undone {write_deed(deed)}"


def state_line(graph, state):
    current = current_instances(graph, state)
    return ", ".join([module_text(name, current.get(name)) for name in graph.names])


def module_text(name, instance):
    if instance is None:
        return f"{name} none"
    _, edition, word, _, _ = instance
    return f"{name} {edition}" if word is None else f"{name} {edition} {word}"
