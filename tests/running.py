"""What the tests of machines have in common."""

import random

EDGES = (0, 1, 2147483647, 2147483648, 4294967295)


def told_by(machine):
    """Place, steps, whether it stands, registers, marks and memory."""
    return (
        machine.place(), machine.steps(), machine.stands(), machine.registers(), machine.marks(), machine.memory(),
    )


def some_state(seed):
    """Registers and a memory by chance, edges among them."""
    chance = random.Random(seed)
    registers = [chance.choice(EDGES + (chance.randrange(4294967296), chance.randrange(65536))) for turn in range(8)]
    addresses = set()
    for turn in range(chance.randrange(30)):
        addresses.add(chance.choice((chance.randrange(65536), chance.randrange(300), 65535 - chance.randrange(5))))
    addresses = sorted(addresses)
    chance.shuffle(addresses)
    return registers, [(address, chance.randrange(256)) for address in addresses]
