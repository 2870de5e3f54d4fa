"""Live programs: a state that deeds lead on and that undoing leads back."""

from swappedhot.climbing import check_module
from swappedhot.errors import BadDeed, BatchRefused, NotAState, NothingToUndo, TooMany
from swappedhot.judging import state_faults
from swappedhot.rules import check_rule
from swappedhot.running import first_state
from swappedhot.states import current_instances, is_state
from swappedhot.swapping import step


class Live:
    """A running program."""

    def __init__(self, graph, rule, *, state=None):
        check_rule(rule)
        if state is not None and not is_state(graph, state):
            raise NotAState()
        self.graph = graph
        self.rule = rule
        self.state = first_state(graph) if state is None else state
        self.done = ()
        # The states before the deeds of done; a deed cannot be done backwards, as it forgets.
        self.befores = []

    def do(self, deed):
        """Do a deed and return its Step."""
        made = step(self.graph, self.rule, self.state, deed)
        self.befores.append(self.state)
        self.state = made.state
        self.done = self.done + (deed,)
        return made

    def use(self, rule):
        """Make a rule the rule of the later deeds."""
        check_rule(rule)
        self.rule = rule

    def edit(self, module, edition):
        """Make an edition the source of a module."""
        self.do(("edit", module, edition))

    def fire(self, event):
        """Let an event happen and return its calls."""
        return self.do(("fire", event)).calls

    def reload(self):
        """Start the program afresh."""
        self.do(("reload",))

    def preview(self, deeds):
        """Return the state to which deeds lead, but do not do them."""
        return self.states_along(deeds)[-1]

    def states_along(self, deeds):
        """Return the list of the states on the way of deeds, the present one and the last one among them."""
        states = [self.state]
        for index, deed in enumerate(deeds):
            try:
                states.append(step(self.graph, self.rule, states[-1], deed).state)
            except (BadDeed, TooMany):
                raise BatchRefused(index) from None
        return states

    def undo(self):
        """Go back to the state before the last deed, and return this deed."""
        if not self.done:
            raise NothingToUndo()
        deed = self.done[-1]
        self.done = self.done[:-1]
        self.state = self.befores.pop()
        return deed

    def fork(self):
        """Return another live program that has done the same."""
        other = Live(self.graph, self.rule)
        other.follow(self)
        return other

    def follow(self, other):
        """Take over what another live program of the same graph has done."""
        self.state = other.state
        self.done = other.done
        self.befores = list(other.befores)

    def faults(self):
        """Return the list of the faults of the state."""
        return state_faults(self.graph, self.state)

    def __getitem__(self, at):
        check_module(self.graph, at)
        current = current_instances(self.graph, self.state)
        return current[at][2] if at in current else None

    def __setitem__(self, at, worth):
        self.do(("set", at, worth))

    def __iter__(self):
        raise TypeError("a live program is not iterated over")

    def __iadd__(self, other):
        states = self.states_along(other)
        self.befores.extend(states[:-1])
        self.state = states[-1]
        self.done = self.done + tuple(other)
        return self

    def __len__(self):
        return len(self.done)

    def __contains__(self, x):
        return x in self.graph and x in current_instances(self.graph, self.state)
