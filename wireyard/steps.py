"""What Plain and Swift share: the order of reckoning, and what follows from a beat."""

from wireyard.scopes import in_order


def order_of(wired):
    """All names with their pieces, each behind all that it asks; doors in and rests have words ahead of them."""
    told = {name: True for name, _ in wired.ins}
    told.update({rest[0]: True for rest in wired.resting})
    return in_order(wired.names, told)


def go_on_by(state, wired, seen):
    """Brings a state to the next beat, seen being all that is seen in this one."""
    words = [piece.worth(seen) for _, _, _, piece in wired.resting]
    writings = [tuple([piece.worth(seen) for piece in memory[3:]]) for memory in wired.memories]
    state.go_on(words, writings)


def words_out(wired, seen):
    return {name: seen[name] for name, _ in wired.outs}
