"""A second way to come to the answers, for the tests: all reaches together, tick by tick, with Python's fractions."""

import re
from fractions import Fraction

BEHIND = 60 + 8 * 10 + 1
NUMBER = "(0|[1-9][0-9]{0,7})"
LINE = re.compile(
    f"reach +([a-z]{{1,8}}) +from +([a-z]+) +delay +{NUMBER} +loss +{NUMBER} +soak +{NUMBER} +cap +{NUMBER} +gate +{NUMBER}"
)
WORDS = "reach from source delay loss soak cap gate".split()


def read(text):
    """A list of dicts, or the wrong line's number."""
    lines = text.split("\n")
    if lines[-1] == "":
        lines.pop()
    reaches = []
    for number, told in enumerate(lines, start=1):
        if told.strip(" ") == "":
            continue
        match = LINE.fullmatch(told.strip(" "))
        if not match:
            return number
        name, where = match.group(1), match.group(2)
        d, l, k, c, g = [int(word) for word in match.groups()[2:]]
        names = [reach["name"] for reach in reaches]
        if name in WORDS or name in names or where not in ["source"] + names:
            return number
        if d > 10 or l > 99 or k > 1000 or not 1 <= c <= 100000 or g > 100:
            return number
        way = [len(reaches)]
        if where != "source":
            way = reaches[names.index(where)]["way"] + way
        beside = sum(reach["g"] for reach in reaches if reach["where"] == where)
        if len(way) > 8 or len(reaches) == 30 or beside + g > 100:
            return number
        reaches.append(dict(name=name, where=where, way=way, d=d, l=l, k=k, c=c, g=g))
    return reaches or len(lines) + 1


class Model:
    def __init__(self):
        self.reaches = None

    def net(self, text):
        got = read(text)
        if isinstance(got, int):
            return [1, got]
        self.reaches = got
        self.let_in = [0] * BEHIND
        self.told = []
        return [0, len(got), len(self.ends())]

    def ends(self):
        parents = [reach["where"] for reach in self.reaches]
        return [i for i, reach in enumerate(self.reaches) if reach["name"] not in parents]

    def part(self, i, tick):
        mine = [(t, order, part) for order, (who, t, part) in enumerate(self.told) if who == i and t <= tick]
        return max(mine)[2] if mine else self.reaches[i]["g"]

    def let(self, t, waters):
        if not 0 <= t <= 59 or t + len(waters) > 60 or any(not 0 <= water <= 1000000 for water in waters):
            return [-1]
        self.let_in[t:t + len(waters)] = waters
        return [0]

    def gate(self, i, t, part):
        if not 0 <= i < len(self.reaches) or not 0 <= t <= 59 or not 0 <= part <= 100:
            return [-1]
        self.told.append((i, t, part))
        where = self.reaches[i]["where"]
        beside = [k for k, reach in enumerate(self.reaches) if reach["where"] == where]
        if any(sum(self.part(k, tick) for k in beside) > 100 for tick in range(BEHIND)):
            self.told.pop()
            return [-7]
        if len(self.told) > 60:
            self.told.pop()
            return [-6]
        return [0]

    def simulate(self, let_in):
        """By tick and reach what is offered, taken and leaving; and what arrived, was lost, spilled and ran off."""
        many = len(self.reaches)
        offered = [[Fraction(0)] * many for _ in range(2 * BEHIND)]
        taken = [[Fraction(0)] * many for _ in range(2 * BEHIND)]
        leaving = [[Fraction(0)] * many for _ in range(2 * BEHIND)]
        totals = [Fraction(0)] * 4
        ends = self.ends()
        for tick in range(BEHIND):
            waters = {"source": Fraction(let_in[tick])}
            for i, reach in enumerate(self.reaches):
                water = waters[reach["where"]] * Fraction(self.part(i, tick), 100)
                offered[tick][i] = water
                taken[tick][i] = min(water, Fraction(reach["c"]))
                totals[2] += water - taken[tick][i]
                left = max(taken[tick][i] - reach["k"], Fraction(0))
                left -= left * Fraction(reach["l"], 100)
                totals[1] += taken[tick][i] - left
                leaving[tick + reach["d"]][i] += left
                waters[reach["name"]] = leaving[tick][i]
                if i in ends:
                    totals[0] += leaving[tick][i]
            for where, water in waters.items():
                parts = [self.part(i, tick) for i, reach in enumerate(self.reaches) if reach["where"] == where]
                if parts:
                    totals[3] += water * Fraction(100 - sum(parts), 100)
        return offered, taken, leaving, totals

    def alone(self, t, water):
        return [0] * t + [water] + [0] * (BEHIND - t - 1)

    def most_leaving(self, i, t, water):
        """What leaves reach i in all of so much let in at t alone."""
        leaving = self.simulate(self.alone(t, water))[2]
        return sum(row[i] for row in leaving)
