"""The program against the model, on many nets that are made by a fixed seed."""

import random
import unittest
from fractions import Fraction

from helpers import (
    account, accounts, comes, counts, ends, flow, gate, ifcap, let, line, most, need, net, part, print_text, run, said,
    set_gates, spills, wants, way,
)
from model import Model, pairs, read

LETTERS = "abcdefghijklmnopqrstuvwxyz"


def told(waters):
    return [0] + pairs(waters)


def make_text(rng, many):
    """A right text of so many reaches."""
    text = ""
    places = [("source", 0, 100)]
    for k in range(many):
        at = rng.randrange(len(places))
        where, depth, room = places[at]
        if depth == 8:
            at = 0
            where, depth, room = places[0]
        part = rng.choice([0, room, rng.randint(0, room), rng.randint(0, room)])
        places[at] = (where, depth, room - part)
        name = LETTERS[k % 26] * (1 + k // 26)
        places.append((name, depth + 1, 100))
        text += line(name, where, rng.choice([0, 1, 2, 10]), rng.choice([0, 1, 33, 99]), rng.choice([0, 3, 1000]),
                     rng.choice([1, 50, 900, 100000]), part)
    return text


def spoil(rng, text):
    """A text with a few of its bytes or lines changed."""
    for _ in range(rng.randint(0, 3)):
        at = rng.randrange(len(text))
        what = rng.randrange(5)
        if what == 0:
            text = text[:at] + text[at + 1:]
        elif what == 1:
            text = text[:at] + rng.choice(" \n0a1\t") + text[at:]
        elif what == 2:
            lines = text.split("\n")
            rng.shuffle(lines)
            text = "\n".join(lines)
        elif what == 3:
            lines = text.split("\n")
            lines.insert(rng.randrange(len(lines)), rng.choice(["", "  "] + lines))
            text = "\n".join(lines)
        else:
            text = text.replace(rng.choice(["source", "a", "gate ", "cap 1", " 0"]), rng.choice(["b", "9", " 10 "]), 1)
        text = text[:3000] or "\n"
    return text


class Texts(unittest.TestCase):
    def test_spoilt_texts(self):
        rng = random.Random(5)
        seen = {0: 0, 1: 0}
        for _ in range(1500):
            text = spoil(rng, make_text(rng, rng.randint(1, 30)))
            got = read(text)
            heard = run(net(text))[0]
            seen[heard[0]] += 1
            if isinstance(got, int):
                self.assertEqual([1, got], heard, text)
            else:
                self.assertEqual([0, len(got)], heard[:2], text)
        self.assertTrue(min(seen.values()) > 100, seen)


class Waters(unittest.TestCase):
    def start(self, rng):
        """A model, and the calls that bring the program to where it is, checked."""
        model = Model()
        text = make_text(rng, rng.choice([1, 3, 8, 30]))
        calls = [net(text)]
        expected = [model.net(text)]
        for _ in range(rng.randint(0, 3)):
            t = rng.randint(-1, 60)
            waters = [rng.choice([0, 1, 77, 5000, 1000000]) for _ in range(rng.randint(0, 60 - max(t, 0)))]
            calls.append(let(t, waters))
            expected.append(model.let(t, waters))
        for _ in range(rng.choice([0, 5, 70])):
            numbers = (rng.randint(0, len(model.reaches)), rng.randint(0, 60), rng.choice([0, 10, rng.randint(0, 101)]))
            calls.append(gate(*numbers))
            expected.append(model.gate(*numbers))
        self.assertEqual(expected, run(*calls))
        return model, calls

    def test_flow_comes_account_accounts_way(self):
        rng = random.Random(11)
        for _ in range(30):
            model, calls = self.start(rng)
            offered, taken, leaving, totals = model.simulate(model.let_in)
            asked = [accounts()]
            expected = [told(totals)]
            for _ in range(8):
                i = rng.randrange(len(model.reaches))
                t = rng.randint(0, 59)
                n = rng.randint(1, 60 - t)
                here = offered[t][i], taken[t][i], offered[t][i] - taken[t][i], leaving[t][i]
                asked.extend([flow(i, t), comes(i, t, n), way(i)])
                expected.extend([told(here), told([leaving[t + k][i] for k in range(n)])])
                steps = model.reaches[i]["way"]
                expected.append([0, sum(model.reaches[k]["d"] for k in steps), len(steps)] + steps)
            for t in (rng.randint(0, 59), 59):
                asked.append(account(t))
                expected.append(told(model.simulate(model.alone(t, model.let_in[t]))[3]))
            self.assertEqual(expected, run(*calls, *asked)[len(calls):])

    def test_need(self):
        rng = random.Random(23)
        seen = {0: 0, 1: 0}
        for _ in range(30):
            model, calls = self.start(rng)
            for _ in range(3):
                i = rng.randrange(len(model.reaches))
                t = rng.randint(0, 59)
                x = rng.choice([1, 2, 30, 45000])
                heard = run(*calls, need(i, t, x))[-1]
                seen[heard[1]] += 1
                if heard[1] == 0:
                    self.assertEqual([0, 0], heard)
                    self.assertLess(model.most_leaving(i, t, 10 ** 40), x)
                else:
                    least = Fraction(heard[2], heard[3])
                    self.assertEqual([0, 1, least.numerator, least.denominator], heard)
                    self.assertEqual(x, model.most_leaving(i, t, least))
                    self.assertLess(model.most_leaving(i, t, least - Fraction(1, 10 ** 40)), x)
        self.assertTrue(min(seen.values()) > 10, seen)

    def test_most_part_spills_ifcap(self):
        rng = random.Random(31)
        for _ in range(30):
            model, calls = self.start(rng)
            asked = [spills()]
            expected = [told(model.spills())]
            for _ in range(4):
                i = rng.randrange(len(model.reaches))
                t = rng.randint(0, 59)
                asked.extend([most(i, t), part(i, t)])
                expected.extend([told([model.most_leaving(i, t, 10 ** 40)]), [0, model.part(i, t)]])
            for c in (1, rng.randint(1, 1000), 100000):
                i = rng.randrange(len(model.reaches))
                asked.append(ifcap(i, c))
                expected.append(told(model.ifcap(i, c)))
            self.assertEqual(expected, run(*calls, *asked)[len(calls):])

    def test_ends_print_counts(self):
        rng = random.Random(37)
        for _ in range(60):
            model, calls = self.start(rng)
            heard = run(*calls, ends(), print_text(), counts())[len(calls):]
            found = model.ends()
            told_settings = len(model.told)
            self.assertEqual([0, len(found)] + found, heard[0])
            self.assertEqual(said(model.text()), heard[1])
            self.assertEqual([0, len(model.reaches), len(found), told_settings, sum(model.let_in)], heard[2])


class Asks(unittest.TestCase):
    def ask(self, rng, text, greatest):
        """A model, asks, and what wants and set answer."""
        model = Model()
        model.net(text)
        asks = [rng.choice([0, rng.randint(0, greatest)]) for _ in model.ends()]
        heard = run(net(text), wants(asks), set_gates(asks))
        return model, asks, heard[1], heard[2]

    def test_against_the_plan(self):
        rng = random.Random(41)
        seen = {"can": 0, "one": 0, "several": 0}
        for _ in range(600):
            text = make_text(rng, rng.choice([1, 3, 8, 30])).replace("loss 99", "loss 5").replace("cap 1 ", "cap 40 ")
            model, asks, wanted, parts = self.ask(rng, text, rng.choice([1, 20, 400]))
            offers, cannot = model.plan(asks)
            if cannot:
                seen["one" if len(cannot) == 1 else "several"] += 1
                self.assertEqual([0, 0, cannot[0]], wanted)
                self.assertEqual([-8], parts)
                continue
            seen["can"] += 1
            whole = sum([offers[i] for i in model.below("source")])
            self.assertEqual([0, 1] + told([whole])[1:], wanted)
            self.assertEqual(told(model.shares(offers)), parts)
        self.assertTrue(min(seen.values()) > 50, seen)

    def test_let_in_with_these_gates_just_what_was_asked_arrives(self):
        rng = random.Random(43)
        tried = 0
        while tried < 40:
            text = make_text(rng, rng.choice([2, 8, 30])).replace("cap 1 ", "cap 90000 ").replace("cap 50 ", "cap 9000 ")
            model, asks, wanted, parts = self.ask(rng, text, 30)
            if wanted[1] == 0 or sum(asks) == 0:
                continue
            tried += 1
            shares = [Fraction(parts[1 + 2 * i], parts[2 + 2 * i]) for i in range(len(model.reaches))]
            let_in = model.alone(5, Fraction(wanted[2], wanted[3]))
            leaving, totals = model.simulate(let_in, lambda i, tick: shares[i])[2:]
            self.assertEqual(asks, [sum([row[i] for row in leaving]) for i in model.ends()])
            self.assertEqual([sum(asks), 0, 0], [totals[0], totals[2], totals[3]])


class AnyOrder(unittest.TestCase):
    """Lists of up to 120 calls of all kinds, right and wrong, in any order."""

    def number(self, rng, greatest):
        return rng.choice([-1, greatest + 1] + [rng.randint(0, greatest) for _ in range(12)])

    def make_call(self, rng, model):
        """A call's number and what it is asked with."""
        many = len(model.reaches) if model.reaches else 2
        ended = len(model.ends()) if model.reaches else 2
        call = rng.choice([0] + list(range(1, 18)) * 3)
        i, t = self.number(rng, many - 1), self.number(rng, 59)
        if call == 0:
            return [0, spoil(rng, make_text(rng, rng.choice([1, 4, 12, 30])))]
        if call == 1:
            size = rng.choice([0, 1, 3, 20, 60])
            return [1, t, [self.number(rng, 1000000) if rng.random() < 0.02 else rng.randint(0, 3000) for _ in range(size)]]
        if call in (10, 11):
            size = rng.choice([ended] * 6 + [ended - 1, min(ended + 1, 30), 0])
            return [call, [rng.choice([0, 1, 40, self.number(rng, 60)]) for _ in range(size)]]
        others = {
            2: [i, t, self.number(rng, 100)], 3: [i, t], 4: [i, t, self.number(rng, 60)], 5: [t], 7: [i],
            8: [i, t, self.number(rng, 200)], 9: [i, t], 12: [i, t], 14: [i, self.number(rng, 100000)],
        }
        return [call] + others.get(call, [])

    def write(self, call):
        if call[0] == 0:
            return net(call[1])
        if isinstance(call[-1], list):
            return call[:-1] + [len(call[-1])] + call[-1]
        return call

    def test_against_the_model(self):
        rng = random.Random(47)
        seen = {}
        for size in [1] * 30 + [7] * 10 + [120] * 8:
            model = Model()
            calls = []
            expected = []
            dear = 0
            while len(calls) < size:
                call = self.make_call(rng, model)
                if len(calls) == 3 and size > 7:
                    call = [0, make_text(rng, 12)]
                dear += call[0] in (4, 6, 13, 14)
                if dear > 16 and call[0] in (4, 6, 13, 14):
                    continue
                calls.append(self.write(call))
                expected.append(model.answer(call))
                first = expected[-1][0]
                seen[(call[0], first)] = seen.get((call[0], first), 0) + 1
            self.assertEqual(expected, run(*calls))
        for call in range(1, 18):
            self.assertIn((call, 0), seen)
            self.assertIn((call, -9), seen)
        for call in (1, 2, 3, 4, 5, 7, 8, 9, 10, 11, 12, 14):
            self.assertIn((call, -1), seen)
        for pair in ((0, 0), (0, 1), (2, -7), (11, -8)):
            self.assertIn(pair, seen)
