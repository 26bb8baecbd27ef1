"""Which rows of a net are read: by a door out, a rest or a memory, or by a row that is read."""

from wireyard.nets import asked_by


def rows_read(net):
    """True or False for each row."""
    _, rows, outs, rests, _, memories = net
    read = [False] * len(rows)
    for number in [door[1] for door in outs] + [rest[3] for rest in rests]:
        read[number] = True
    for memory in memories:
        for number in memory[3:]:
            read[number] = True
    # A row is asked by later ones alone: from the last one on, all that may read a row is known ahead of it.
    for at in reversed(range(len(rows))):
        if read[at]:
            for number in asked_by(rows[at]):
                read[number] = True
    return read
