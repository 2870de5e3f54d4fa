"""Faults: how a state differs from a fresh start, and what goes wrong in a deed."""

from swappedhot.errors import BadFault, BadKinds, TooMany
from swappedhot.plain import is_tuple
from swappedhot.running import start
from swappedhot.states import current_instances
from swappedhot.swapping import calls_of, step

KINDS = ("behind", "elder", "doubled", "lacking", "more", "astray", "dropped", "reloaded", "crowded")

# The kinds of faults that name no module.
WHOLE = ("astray", "reloaded", "crowded")


def check_fault(graph, value):
    """Raise BadFault if a value (any value) is not a fault of the graph."""
    if not is_tuple(value, 2, 2) or value[0] not in KINDS:
        raise BadFault(value)
    if value[1] not in (("",) if value[0] in WHOLE else graph.names):
        raise BadFault(value)


def check_kinds(value):
    """Raise BadKinds if a value (any value) is not a tuple of distinct kinds of faults."""
    if not is_tuple(value, 0, len(KINDS)):
        raise BadKinds(value)
    for index, kind in enumerate(value):
        if kind not in KINDS or kind in value[:index]:
            raise BadKinds(value)


def state_faults(graph, state):
    """Return the list of the faults of a state."""
    return in_order(graph, differences(graph, state))


def judge(graph, rule, state, deed):
    """Return the list of the faults of a deed and of the state after it."""
    after, own = outcome(graph, rule, state, deed)
    # The kinds of faults of deeds stand behind all those of states.
    return state_faults(graph, after) + own


def outcome(graph, rule, state, deed):
    """Return the state after a deed (if it is refused, the one before) and the faults of the deed itself, in order."""
    try:
        done = step(graph, rule, state, deed)
    except TooMany:
        return (state, [("crowded", "")])
    own = []
    if deed[0] in ("edit", "reload"):
        own += [("dropped", name) for name in dropped(graph, state, done.state)]
    if deed[0] == "edit" and ("reload",) in done.trace:
        own.append(("reloaded", ""))
    return (done.state, own)


def in_order(graph, found):
    """Return the faults among those that were found, each once, in their order."""
    return [(kind, name) for kind in KINDS for name in ("",) + graph.names if (kind, name) in found]


def dropped(graph, before, after):
    """Return the modules, in order, whose current instances before and after a deed have different words."""
    old, new = current_words(graph, before), current_words(graph, after)
    return [name for name in old if name in new and old[name] != new[name]]


def current_words(graph, state):
    """Return a dict of the words in the cells of the current instances."""
    current = current_instances(graph, state)
    return {name: current[name][2] for name in current if current[name][2] is not None}


def differences(graph, state):
    """Return the faults of a state against its fresh state, in any order."""
    seen, fresh = Survey(graph, state), Survey(graph, start(graph, state[0]))
    found = []
    for name in graph.names:
        found += [(kind, name) for kind in kinds_of(seen, fresh, name)]
    if seen.called != fresh.called:
        found.append(("astray", ""))
    return found


def kinds_of(seen, fresh, name):
    """Return the kinds of the faults that a module has in a state against the fresh one."""
    found = []
    if name in seen.current and seen.current[name][1] != seen.sources[name]:
        found.append("behind")
    if name in seen.elders:
        found.append("elder")
    if exceeds(seen.counts[name], fresh.counts[name]):
        found.append("doubled")
    if lacks(seen, fresh, name):
        found.append("lacking")
    if name in seen.current and name not in fresh.current:
        found.append("more")
    return found


def exceeds(counts, others):
    """Tell whether one of the counts is more than the other one of the same key."""
    return any([counts[key] > others.get(key, 0) for key in counts])


def lacks(seen, fresh, name):
    """Tell whether a module lacks an instance, listeners, entries or held slots of the fresh state."""
    if exceeds(fresh.counts[name], seen.counts[name]):
        return True
    if name not in fresh.current:
        return False
    if name not in seen.current:
        return True
    filled = filled_slots(seen.current[name])
    return any([slot not in filled for slot in filled_slots(fresh.current[name])])


def filled_slots(instance):
    return [slot for slot, index in instance[3] if index is not None]


class Survey:
    """What two states are compared by."""

    def __init__(self, graph, state):
        sources, instances, current, listeners = state
        self.sources = {name: number for name, number in zip(graph.names, sources)}
        self.current = current_instances(graph, state)
        self.elders = [instance[0] for index, instance in enumerate(instances) if index not in current]
        # Listeners are counted by event, kind and name, entries by the module that they are in.
        self.counts = {name: {} for name in graph.names}
        for owner, event, kind, listened in listeners:
            self.count_one(instances[owner][0], (event, kind, listened))
        for name in self.current:
            for entry in self.current[name][4]:
                self.count_one(instances[entry][0], (name,))
        self.called = [calls_without_words(graph, state, event) for event in graph.events]

    def count_one(self, module, key):
        counts = self.counts[module]
        counts[key] = counts.get(key, 0) + 1


def calls_without_words(graph, state, event):
    """Return the calls of an event, which are compared without their words and their order."""
    return sorted([call[:4] for call in calls_of(graph, state, event)])
