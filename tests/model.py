"""A machine over rows as the document tells it, written anew for the tests, with no part of the package."""

MASK = 4294967295


class Model:
    def __init__(self, items, registers=None, memory=None):
        self.rows = [item for item in items if item[0] != "label"]
        self.places = {}
        for number, item in enumerate(items):
            if item[0] == "label":
                self.places[item[1]] = len([ahead for ahead in items[:number] if ahead[0] != "label"])
        self.words = list(registers or [0] * 8)
        self.bytes = dict(memory or [])
        self.carry = self.nought = self.sign = False
        self.place = self.steps = 0

    def told(self):
        """Place, steps, whether it stands, registers, marks and memory."""
        memory = sorted((address, byte) for address, byte in self.bytes.items() if byte)
        marks = (self.carry, self.nought, self.sign)
        return (self.place, self.steps, self.stands(), list(self.words), marks, memory)

    def stands(self):
        return self.place == len(self.rows) or self.rows[self.place] == ("stop",)

    def step(self):
        if self.stands():
            return
        row = self.rows[self.place]
        self.place += 1
        self.steps += 1
        if row[0] in ("jump", "when", "unless"):
            truth = row[0] == "jump" or getattr(self, row[1])
            if truth is not (row[0] == "unless"):
                self.place = self.places[row[-1]]
        elif row[0] in ("load", "loadw", "store", "storew"):
            self.reach(row[0], row[1], (self.words[row[2]] + row[3]) & 65535)
        else:
            self.reckon(*row)

    def reach(self, kind, d, address):
        four = [(address + number) & 65535 for number in range(4 if kind.endswith("w") else 1)]
        if kind.startswith("load"):
            self.words[d] = int.from_bytes(bytes(self.bytes.get(one, 0) for one in four), "little")
        else:
            for number, one in enumerate(four):
                self.bytes[one] = self.words[d] >> 8 * number & 255

    def reckon(self, kind, d, other):
        one = self.words[d]
        two = self.words[other] if kind not in ("set", "high", "left", "right") else other
        if kind == "set":
            self.words[d] = two
        elif kind == "high":
            self.words[d] = one & 65535 | two << 16
        elif kind == "copy":
            self.words[d] = two
        else:
            carried = 1 if self.carry and kind.endswith("c") else 0
            whole = {
                "add": one + two + carried, "addc": one + two + carried,
                "sub": one - two - carried, "subc": one - two - carried, "test": one - two,
                "and": one & two, "or": one | two, "xor": one ^ two,
                "left": one << two if two < 32 else 0, "right": one >> two if two < 32 else 0,
            }[kind]
            if kind in ("add", "addc", "sub", "subc", "test"):
                self.carry = not 0 <= whole <= MASK
            if kind == "left" and two:
                self.carry = whole >> 32 & 1 == 1
            if kind == "right" and two:
                self.carry = one >> two - 1 & 1 == 1
            self.nought = whole & MASK == 0
            self.sign = whole & MASK > MASK // 2
            if kind != "test":
                self.words[d] = whole & MASK
