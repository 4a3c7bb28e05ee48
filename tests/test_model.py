"""The program against the model, on many nets that are made by a fixed seed."""

import random
import unittest
from fractions import Fraction

from helpers import account, accounts, comes, flow, gate, let, line, need, net, run, way
from model import Model, read

LETTERS = "abcdefghijklmnopqrstuvwxyz"


def told(waters):
    numbers = [0]
    for water in waters:
        numbers.extend([water.numerator, water.denominator])
    return numbers


def make_text(rng, many):
    """A right text of so many reaches."""
    text = ""
    places = [("source", 0, 100)]
    for k in range(many):
        at = rng.randrange(len(places))
        where, depth, room = places[at]
        if depth == 8:
            at = 0
            where, depth, room = places[0]
        part = rng.choice([0, room, rng.randint(0, room), rng.randint(0, room)])
        places[at] = (where, depth, room - part)
        name = LETTERS[k % 26] * (1 + k // 26)
        places.append((name, depth + 1, 100))
        text += line(name, where, rng.choice([0, 1, 2, 10]), rng.choice([0, 1, 33, 99]), rng.choice([0, 3, 1000]),
                     rng.choice([1, 50, 900, 100000]), part)
    return text


def spoil(rng, text):
    """A text with a few of its bytes or lines changed."""
    for _ in range(rng.randint(0, 3)):
        at = rng.randrange(len(text))
        what = rng.randrange(5)
        if what == 0:
            text = text[:at] + text[at + 1:]
        elif what == 1:
            text = text[:at] + rng.choice(" \n0a1\t") + text[at:]
        elif what == 2:
            lines = text.split("\n")
            rng.shuffle(lines)
            text = "\n".join(lines)
        elif what == 3:
            lines = text.split("\n")
            lines.insert(rng.randrange(len(lines)), rng.choice(["", "  "] + lines))
            text = "\n".join(lines)
        else:
            text = text.replace(rng.choice(["source", "a", "gate ", "cap 1", " 0"]), rng.choice(["b", "9", " 10 "]), 1)
        text = text[:3000] or "\n"
    return text


class Texts(unittest.TestCase):
    def test_spoilt_texts(self):
        rng = random.Random(5)
        seen = {0: 0, 1: 0}
        for _ in range(1500):
            text = spoil(rng, make_text(rng, rng.randint(1, 30)))
            got = read(text)
            heard = run(net(text))[0]
            seen[heard[0]] += 1
            if isinstance(got, int):
                self.assertEqual([1, got], heard, text)
            else:
                self.assertEqual([0, len(got)], heard[:2], text)
        self.assertTrue(min(seen.values()) > 100, seen)


class Waters(unittest.TestCase):
    def start(self, rng):
        """A model, and the calls that bring the program to where it is, checked."""
        model = Model()
        text = make_text(rng, rng.choice([1, 3, 8, 30]))
        calls = [net(text)]
        expected = [model.net(text)]
        for _ in range(rng.randint(0, 3)):
            t = rng.randint(-1, 60)
            waters = [rng.choice([0, 1, 77, 5000, 1000000]) for _ in range(rng.randint(0, 60 - max(t, 0)))]
            calls.append(let(t, waters))
            expected.append(model.let(t, waters))
        for _ in range(rng.choice([0, 5, 70])):
            numbers = (rng.randint(0, len(model.reaches)), rng.randint(0, 60), rng.choice([0, 10, rng.randint(0, 101)]))
            calls.append(gate(*numbers))
            expected.append(model.gate(*numbers))
        self.assertEqual(expected, run(*calls))
        return model, calls

    def test_flow_comes_account_accounts_way(self):
        rng = random.Random(11)
        for _ in range(30):
            model, calls = self.start(rng)
            offered, taken, leaving, totals = model.simulate(model.let_in)
            asked = [accounts()]
            expected = [told(totals)]
            for _ in range(8):
                i = rng.randrange(len(model.reaches))
                t = rng.randint(0, 59)
                n = rng.randint(1, 60 - t)
                here = offered[t][i], taken[t][i], offered[t][i] - taken[t][i], leaving[t][i]
                asked.extend([flow(i, t), comes(i, t, n), way(i)])
                expected.extend([told(here), told([leaving[t + k][i] for k in range(n)])])
                steps = model.reaches[i]["way"]
                expected.append([0, sum(model.reaches[k]["d"] for k in steps), len(steps)] + steps)
            for t in (rng.randint(0, 59), 59):
                asked.append(account(t))
                expected.append(told(model.simulate(model.alone(t, model.let_in[t]))[3]))
            self.assertEqual(expected, run(*calls, *asked)[len(calls):])

    def test_need(self):
        rng = random.Random(23)
        seen = {0: 0, 1: 0}
        for _ in range(30):
            model, calls = self.start(rng)
            for _ in range(3):
                i = rng.randrange(len(model.reaches))
                t = rng.randint(0, 59)
                x = rng.choice([1, 2, 30, 45000])
                heard = run(*calls, need(i, t, x))[-1]
                seen[heard[1]] += 1
                if heard[1] == 0:
                    self.assertEqual([0, 0], heard)
                    self.assertLess(model.most_leaving(i, t, 10 ** 40), x)
                else:
                    least = Fraction(heard[2], heard[3])
                    self.assertEqual([0, 1, least.numerator, least.denominator], heard)
                    self.assertEqual(x, model.most_leaving(i, t, least))
                    self.assertLess(model.most_leaving(i, t, least - Fraction(1, 10 ** 40)), x)
        self.assertTrue(min(seen.values()) > 10, seen)
