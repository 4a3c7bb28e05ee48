"""A second way to come to the answers, for the tests: all reaches together, tick by tick, with Python's fractions."""

import re
from fractions import Fraction

BEHIND = 60 + 8 * 10 + 1
NUMBER = "(0|[1-9][0-9]{0,7})"
LINE = re.compile(
    f"reach +([a-z]{{1,8}}) +from +([a-z]+) +delay +{NUMBER} +loss +{NUMBER} +soak +{NUMBER} +cap +{NUMBER} +gate +{NUMBER}"
)
WORDS = "reach from source delay loss soak cap gate".split()


def read(text):
    """A list of dicts, or the wrong line's number."""
    lines = text.split("\n")
    if lines[-1] == "":
        lines.pop()
    reaches = []
    for number, told in enumerate(lines, start=1):
        if told.strip(" ") == "":
            continue
        match = LINE.fullmatch(told.strip(" "))
        if not match:
            return number
        name, where = match.group(1), match.group(2)
        d, l, k, c, g = [int(word) for word in match.groups()[2:]]
        names = [reach["name"] for reach in reaches]
        if name in WORDS or name in names or where not in ["source"] + names:
            return number
        if d > 10 or l > 99 or k > 1000 or not 1 <= c <= 100000 or g > 100:
            return number
        way = [len(reaches)]
        if where != "source":
            way = reaches[names.index(where)]["way"] + way
        beside = sum(reach["g"] for reach in reaches if reach["where"] == where)
        if len(way) > 8 or len(reaches) == 30 or beside + g > 100:
            return number
        reaches.append(dict(name=name, where=where, way=way, d=d, l=l, k=k, c=c, g=g))
    return reaches or len(lines) + 1


def pairs(waters):
    numbers = []
    for water in waters:
        numbers.extend([water.numerator, water.denominator])
    return numbers


class Model:
    def __init__(self):
        self.reaches = None

    def net(self, text):
        got = read(text)
        if isinstance(got, int):
            return [1, got]
        self.reaches = got
        self.let_in = [0] * BEHIND
        self.told = []
        return [0, len(got), len(self.ends())]

    def ends(self):
        parents = [reach["where"] for reach in self.reaches]
        return [i for i, reach in enumerate(self.reaches) if reach["name"] not in parents]

    def part(self, i, tick):
        mine = [(t, order, part) for order, (who, t, part) in enumerate(self.told) if who == i and t <= tick]
        return max(mine)[2] if mine else self.reaches[i]["g"]

    def let(self, t, waters):
        if not 0 <= t <= 59 or t + len(waters) > 60 or any(not 0 <= water <= 1000000 for water in waters):
            return [-1]
        self.let_in[t:t + len(waters)] = waters
        return [0]

    def gate(self, i, t, part):
        if not 0 <= i < len(self.reaches) or not 0 <= t <= 59 or not 0 <= part <= 100:
            return [-1]
        self.told.append((i, t, part))
        where = self.reaches[i]["where"]
        beside = [k for k, reach in enumerate(self.reaches) if reach["where"] == where]
        if any(sum(self.part(k, tick) for k in beside) > 100 for tick in range(BEHIND)):
            self.told.pop()
            return [-7]
        if len(self.told) > 60:
            self.told.pop()
            return [-6]
        return [0]

    def simulate(self, let_in, share=None):
        """By tick and reach what is offered, taken and leaving; and what arrived, was lost, spilled and ran off.

        share tells a gate's part of the whole, if it is not to be as the gates are set.
        """
        if share is None:
            def share(i, tick):
                return Fraction(self.part(i, tick), 100)
        many = len(self.reaches)
        offered = [[Fraction(0)] * many for _ in range(2 * BEHIND)]
        taken = [[Fraction(0)] * many for _ in range(2 * BEHIND)]
        leaving = [[Fraction(0)] * many for _ in range(2 * BEHIND)]
        totals = [Fraction(0)] * 4
        ends = self.ends()
        for tick in range(BEHIND):
            waters = {"source": Fraction(let_in[tick])}
            for i, reach in enumerate(self.reaches):
                water = waters[reach["where"]] * share(i, tick)
                offered[tick][i] = water
                taken[tick][i] = min(water, Fraction(reach["c"]))
                totals[2] += water - taken[tick][i]
                left = max(taken[tick][i] - reach["k"], Fraction(0))
                left -= left * Fraction(reach["l"], 100)
                totals[1] += taken[tick][i] - left
                leaving[tick + reach["d"]][i] += left
                waters[reach["name"]] = leaving[tick][i]
                if i in ends:
                    totals[0] += leaving[tick][i]
            for where, water in waters.items():
                parts = [share(i, tick) for i, reach in enumerate(self.reaches) if reach["where"] == where]
                if parts:
                    totals[3] += water * (1 - sum(parts))
        return offered, taken, leaving, totals

    def alone(self, t, water):
        return [0] * t + [water] + [0] * (BEHIND - t - 1)

    def most_leaving(self, i, t, water):
        """What leaves reach i in all of so much let in at t alone."""
        leaving = self.simulate(self.alone(t, water))[2]
        return sum(row[i] for row in leaving)

    def spills(self):
        offered, taken, leaving, totals = self.simulate(self.let_in)
        return [sum(offered[tick][i] - taken[tick][i] for tick in range(BEHIND)) for i in range(len(self.reaches))]

    def ifcap(self, i, c):
        other = Model()
        other.reaches = [dict(reach) for reach in self.reaches]
        other.reaches[i]["c"] = c
        other.told = self.told
        return other.simulate(self.let_in)[3]

    def below(self, where):
        return [i for i, reach in enumerate(self.reaches) if reach["where"] == where]

    def plan(self, asks):
        """What is to be offered, reach by reach, and the reaches that can't, in the order of their telling."""
        offers = {}
        cannot = []
        asked = dict(zip(self.ends(), asks))

        def visit(i):
            reach = self.reaches[i]
            for k in self.below(reach["name"]):
                visit(k)
            out = Fraction(asked[i]) if i in asked else sum(offers[k] for k in self.below(reach["name"]))
            offers[i] = out / Fraction(100 - reach["l"], 100) + reach["k"] if out else Fraction(0)
            if offers[i] > reach["c"]:
                cannot.append(i)

        for i in self.below("source"):
            visit(i)
        return offers, cannot

    def shares(self, offers):
        """The gates' parts of the whole, reach by reach."""
        shares = []
        for i, reach in enumerate(self.reaches):
            whole = sum(offers[k] for k in self.below(reach["where"]))
            shares.append(offers[i] / whole if whole else Fraction(0))
        return shares

    def text(self):
        return "".join(
            "reach {name} from {where} delay {d} loss {l} soak {k} cap {c} gate {g}\n".format(**reach)
            for reach in self.reaches
        )

    def needed(self, i, t, x):
        """What has to be let in, or None."""
        water = Fraction(x)
        tick = t + sum(self.reaches[k]["d"] for k in self.reaches[i]["way"])
        for k in reversed(self.reaches[i]["way"]):
            reach = self.reaches[k]
            tick -= reach["d"]
            water = water / (1 - Fraction(reach["l"], 100)) + reach["k"]
            if water > reach["c"] or self.part(k, tick) == 0:
                return None
            water = water / Fraction(self.part(k, tick), 100)
        return water

    def is_right(self, call):
        """Whether the numbers and lists of a call, but of let and gate, are as told."""
        many, number, rest = len(self.reaches), call[0], call[1:]
        if number in (3, 4, 7, 8, 9, 12, 14) and not 0 <= rest[0] < many:
            return False
        if number in (3, 4, 8, 9, 12) and not 0 <= rest[1] <= 59 or number == 5 and not 0 <= rest[0] <= 59:
            return False
        if number in (10, 11):
            return len(rest[0]) == len(self.ends()) and all(0 <= x <= 1000000 for x in rest[0])
        greatest = {4: (1, 60 - rest[1]) if number == 4 else (), 8: (0, 1000000), 14: (1, 100000)}.get(number)
        return not greatest or greatest[0] <= rest[-1] <= greatest[1]

    def answer(self, call):
        """The answer to a call: its number and what it is asked with, a text for net."""
        number, rest = call[0], call[1:]
        if number == 0:
            return self.net(*rest)
        if self.reaches is None:
            return [-9]
        if number == 1:
            return self.let(*rest)
        if number == 2:
            return self.gate(*rest)
        if not self.is_right(call):
            return [-1]
        if number == 11 and self.plan(rest[0])[1]:
            return [-8]
        return [0] + self.answer_right(number, *rest)

    def answer_right(self, number, *rest):
        if number in (3, 4):
            offered, taken, leaving, totals = self.simulate(self.let_in)
            i, t = rest[:2]
            if number == 3:
                return pairs([offered[t][i], taken[t][i], offered[t][i] - taken[t][i], leaving[t][i]])
            return pairs([leaving[t + k][i] for k in range(rest[2])])
        if number == 5:
            return pairs(self.simulate(self.alone(rest[0], self.let_in[rest[0]]))[3])
        if number == 6:
            return pairs(self.simulate(self.let_in)[3])
        if number == 7:
            way = self.reaches[rest[0]]["way"]
            return [sum(self.reaches[k]["d"] for k in way), len(way)] + way
        if number == 8:
            water = self.needed(*rest) if rest[2] else Fraction(0)
            return [0] if water is None else [1] + pairs([water])
        if number == 9:
            return pairs([self.most_leaving(rest[0], rest[1], 10 ** 40)])
        if number == 10:
            offers, cannot = self.plan(rest[0])
            return [0, cannot[0]] if cannot else [1] + pairs([sum(offers[i] for i in self.below("source"))])
        if number == 11:
            return pairs(self.shares(self.plan(rest[0])[0]))
        if number == 12:
            return [self.part(*rest)]
        if number == 13:
            return pairs(self.spills())
        if number == 14:
            return pairs(self.ifcap(*rest))
        if number == 15:
            return [len(self.ends())] + self.ends()
        if number == 16:
            return [len(self.text())] + [ord(sign) for sign in self.text()]
        return [len(self.reaches), len(self.ends()), len(self.told), sum(self.let_in)]
