"""What is known of a thing: states, which are dicts from askers to tuples (count, value)."""


def later(one, other):
    if one[0] != other[0]:
        return one if one[0] > other[0] else other
    # Who has None knows of a write that wrote this one over, and that is not forgotten.
    return other if other[1] is None else one


def joined(one, other):
    state = dict(one)
    for asker, entry in other.items():
        state[asker] = later(state[asker], entry) if asker in state else entry
    return state


def count_of(state, asker):
    return state[asker][0] if asker in state else 0


def written(state, asker, value):
    made = {}
    for name, entry in state.items():
        made[name] = (entry[0], None)
    made[asker] = (count_of(state, asker) + 1, value)
    return made


def stands(entry):
    return entry[1] is not None


def standing(state):
    return [(asker, state[asker][0], state[asker][1]) for asker in sorted(state) if stands(state[asker])]


def knows(state, asker, count):
    return count_of(state, asker) >= count


def covers(one, other):
    return joined(one, other) == one


def mark_of(entry):
    return 2 * entry[0] - 1 if stands(entry) else 2 * entry[0]


def marks(state):
    return tuple([(asker, mark_of(state[asker])) for asker in sorted(state)])
