"""Disks and journals told plainly: a disk by all that was done to it, a journal by what its disk means."""


def landed(done, many):
    """The blocks as they lie, and what waits, behind a list of what was done to a disk without an Out.

    Each deed is ("write", at, block), ("flush",) or ("cut", lands, torn).
    """
    lying, waiting = [()] * many, []
    for deed in done:
        if deed[0] == "write":
            waiting.append(deed[1:])
            continue
        for number, (at, block) in enumerate(waiting):
            if deed[0] == "flush" or number in deed[1]:
                lying[at] = block
            elif number in deed[2]:
                lying[at] = ()
        waiting = []
    return lying, waiting


def reads(done, many, at):
    """What a block reads as."""
    lying, waiting = landed(done, many)
    return ([lying[at]] + [block for place, block in waiting if place == at])[-1]


def head_in(blocks):
    """The head that counts, five noughts without one."""
    found = [(0, 0, 0, 0, 0)]
    for at in (0, 1):
        block = blocks[at]
        if len(block) == 5 and block[0] > 0 and block[0] % 2 == at and all(number >= 0 for number in block[1:4]):
            found.append(block)
    return sorted(found)[-1]


def meaning(blocks):
    """The life, the base and the records that blocks mean."""
    version, life, generation, since, base = head_in(blocks)
    room = (len(blocks) - 2) // 2
    shift = room if generation % 2 else 0
    records, lives = [], [since]
    for number in range(room):
        block = blocks[2 + shift + number]
        if block[:1] != (generation,) or block[2:3] != (number,) or block[1] < lives[-1]:
            break
        lives.append(block[1])
        records.append(block[3:])
    return life, base, tuple(records)
