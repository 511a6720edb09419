"""The machine told a second time, straight by the document: with places that are numbers, moved on one by one."""


def further(view, other):
    return {box: max(view[box], other[box]) for box in view}


class Slow:
    def __init__(self, program):
        self.boxes, self.hands = program
        start = {box: 0 for box in self.boxes}
        self.rows = {box: [{"number": 0, "view": dict(start), "call": None, "taken": False}] for box in self.boxes}
        self.told = [dict(start) for _ in self.hands]
        self.kept = [dict(start) for _ in self.hands]
        self.given = [dict(start) for _ in self.hands]
        self.registers = [{} for _ in self.hands]
        self.at = [0 for _ in self.hands]
        self.failed = [False for _ in self.hands]
        self.lines = [[] for _ in self.hands]
        for hand in range(len(self.hands)):
            self.settle(hand)

    def settle(self, hand):
        while self.at[hand] < len(self.hands[hand]) and not self.failed[hand]:
            deed = self.hands[hand][self.at[hand]]
            if deed[0] not in ("skip", "claim"):
                return
            has = self.registers[hand].get(deed[1], 0) == deed[3]
            if deed[0] == "claim":
                self.failed[hand] = not has if deed[2] == "is" else has
                self.at[hand] += not self.failed[hand]
            elif has if deed[2] == "is" else not has:
                self.at[hand] = min(self.at[hand] + 1 + deed[4], len(self.hands[hand]))
            else:
                self.at[hand] += 1

    def worth(self, hand, what):
        return self.registers[hand].get(what, 0) if isinstance(what, str) else what

    def writes(self, deed, number):
        return deed[0] == "change" or (deed[0] in ("swap", "grab") and number == deed[3])

    def steps(self):
        found = []
        for hand, deeds in enumerate(self.hands):
            if self.failed[hand] or self.at[hand] == len(deeds):
                continue
            deed = deeds[self.at[hand]]
            if deed[0] == "fence":
                found.append((hand, None))
            elif deed[0] == "write":
                row = self.rows[deed[1]]
                for place in range(self.told[hand][deed[1]] + 1, len(row) + 1):
                    if not row[place - 1]["taken"]:
                        found.append((hand, place))
            else:
                row = self.rows[deed[2]]
                for place in range(self.told[hand][deed[2]], len(row)):
                    number = row[place]["number"]
                    if deed[0] in ("wait", "grab") and number != deed[3]:
                        continue
                    if self.writes(deed, number) and row[place]["taken"]:
                        continue
                    found.append((hand, place))
        return found

    def put(self, box, place, message):
        """Put a message at the place; those from there on, and all that view them, one further."""
        row = self.rows[box]
        views = self.told + self.kept + self.given + [m["view"] for one in self.rows.values() for m in one]
        for view in views:
            if view[box] >= place:
                view[box] += 1
        row.insert(place, message)

    def step(self, hand, where):
        deed = self.hands[hand][self.at[hand]]
        if deed[0] == "fence":
            if deed[1] in ("taking", "both"):
                self.told[hand] = further(self.told[hand], self.kept[hand])
            if deed[1] in ("giving", "both"):
                self.given[hand] = dict(self.told[hand])
            self.lines[hand].append(deed)
        elif deed[0] == "write":
            self.write(hand, deed[1], where, self.worth(hand, deed[2]), deed[3], None)
            self.lines[hand].append(("write", deed[1], deed[3], self.worth(hand, deed[2])))
        else:
            self.read(hand, deed, where)
        self.at[hand] += 1
        self.settle(hand)

    def write(self, hand, box, place, number, mode, source):
        message = {"number": number, "view": {one: 0 for one in self.boxes}, "call": (hand, len(self.lines[hand])),
                   "taken": False}
        self.put(box, place, message)
        self.told[hand][box] = place
        view = dict(self.told[hand] if mode in ("giving", "both") else self.given[hand])
        view[box] = place
        if source is not None:
            view = further(view, source["view"])
        message["view"] = view

    def read(self, hand, deed, where):
        box, mode = deed[2], deed[-1]
        source = self.rows[box][where]
        number = source["number"]
        self.told[hand][box] = max(self.told[hand][box], where)
        if mode in ("taking", "both"):
            self.told[hand] = further(self.told[hand], source["view"])
        else:
            self.kept[hand] = further(self.kept[hand], source["view"])
        if self.writes(deed, number):
            other = self.worth(hand, deed[4])
            if deed[0] == "change" and deed[3] == "add":
                other = (number + other) % 10
            self.write(hand, box, where + 1, other, mode, source)
            source["taken"] = True
            self.lines[hand].append(("change", box, mode, number, other, source["call"]))
        else:
            weak = {"loose": "loose", "giving": "loose", "taking": "taking", "both": "taking"}
            mode = weak[mode] if deed[0] == "swap" else mode
            self.lines[hand].append(("read", box, mode, number, source["call"]))
        self.registers[hand][deed[1]] = number

    def graph_rows(self):
        return [[message["call"] for message in self.rows[box][1:]] for box in self.boxes]
