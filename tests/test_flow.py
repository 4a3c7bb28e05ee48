"""Calls 3 and 4, flow and comes: what a reach is offered, takes, spills, and what leaves it."""

import unittest
from fractions import Fraction

from helpers import REFUSED, comes, flow, gate, last, let, line, net, run, sight, way

FAR = 10 ** 18


def waters(answer):
    """The waters of an answer, each checked to be in lowest terms and not below 0."""
    numbers = answer[1:]
    found = []
    for top, bottom in zip(numbers[::2], numbers[1::2]):
        water = Fraction(top, bottom)
        assert (top, bottom) == (water.numerator, water.denominator) and top >= 0
        found.append(water)
    return found


class Flow(unittest.TestCase):
    def test_nothing_is_0_1(self):
        self.assertEqual([0, 0, 1, 0, 1, 0, 1, 0, 1], last(net(line("a")), flow(0, 0)))

    def test_a_gates_part_is_of_a_hundred(self):
        self.assertEqual([0, 3, 100, 3, 100, 0, 1, 3, 100], last(net(line("a", gate=3)), let(0, [1]), flow(0, 0)))
        self.assertEqual([0, 1, 4, 1, 4, 0, 1, 1, 4], last(net(line("a", gate=25)), let(0, [1]), flow(0, 0)))
        self.assertEqual([0] + [0, 1] * 4, last(net(line("a", gate=0)), let(0, [1000000]), flow(0, 0)))

    def test_takes_at_most_the_cap(self):
        capped = net(line("a", cap=10))
        self.assertEqual([0, 9, 1, 9, 1, 0, 1, 9, 1], last(capped, let(0, [9]), flow(0, 0)))
        self.assertEqual([0, 10, 1, 10, 1, 0, 1, 10, 1], last(capped, let(0, [10]), flow(0, 0)))
        self.assertEqual([0, 11, 1, 10, 1, 1, 1, 10, 1], last(capped, let(0, [11]), flow(0, 0)))
        least = net(line("a", cap=1, gate=99))
        self.assertEqual([0, 99, 50, 1, 1, 49, 50, 1, 1], last(least, let(0, [2]), flow(0, 0)))
        most = net(line("a", cap=100000))
        self.assertEqual([0, 100001, 1, 100000, 1, 1, 1, 100000, 1], last(most, let(0, [100001]), flow(0, 0)))

    def test_the_soak_is_lost_first_then_the_loss(self):
        leaky = net(line("a", soak=10, loss=25))
        self.assertEqual([0, 50, 1, 50, 1, 0, 1, 30, 1], last(leaky, let(0, [50]), flow(0, 0)))
        self.assertEqual([0, 11, 1, 11, 1, 0, 1, 3, 4], last(leaky, let(0, [11]), flow(0, 0)))
        self.assertEqual([0, 10, 1, 10, 1, 0, 1, 0, 1], last(leaky, let(0, [10]), flow(0, 0)))
        self.assertEqual([0, 9, 1, 9, 1, 0, 1, 0, 1], last(leaky, let(0, [9]), flow(0, 0)))

    def test_what_is_taken_is_soaked_not_what_is_offered(self):
        self.assertEqual([0, 50, 1, 8, 1, 42, 1, 0, 1], last(net(line("a", cap=8, soak=10)), let(0, [50]), flow(0, 0)))

    def test_largest_loss_and_soak(self):
        heard = last(net(line("a", soak=1000, loss=99)), let(0, [1001]), flow(0, 0))
        self.assertEqual([0, 1001, 1, 1001, 1, 0, 1, 1, 100], heard)

    def test_leaves_delay_ticks_later(self):
        for delay in (0, 1, 10):
            heard = run(net(line("a", delay=delay)), let(5, [7]), *[flow(0, t) for t in range(30)])[2:]
            for t, answer in enumerate(heard):
                here = 7 if t == 5 else 0
                gone = 7 if t == 5 + delay else 0
                self.assertEqual([0, here, 1, here, 1, 0, 1, gone, 1], answer, (delay, t))

    def test_down_the_way(self):
        text = line("a", delay=2, gate=50) + line("b", "a", delay=3, loss=10, gate=30) + line("c", "a", gate=70)
        heard = run(net(text), let(1, [100]), flow(1, 3), flow(1, 6), flow(2, 3), flow(1, 1), flow(1, 4))[2:]
        self.assertEqual([0, 15, 1, 15, 1, 0, 1, 0, 1], heard[0])
        self.assertEqual([0, 0, 1, 0, 1, 0, 1, 27, 2], heard[1])
        self.assertEqual([0, 35, 1, 35, 1, 0, 1, 35, 1], heard[2])
        self.assertEqual([0] + [0, 1] * 4, heard[3])
        self.assertEqual([0] + [0, 1] * 4, heard[4])

    def test_each_tick_by_itself(self):
        # What leaves at a tick was taken earlier: offered and leaving stand side by side.
        heard = run(net(line("a", delay=1, cap=5)), let(0, [3, 8, 4]), *[flow(0, t) for t in range(4)])[2:]
        self.assertEqual([0, 3, 1, 3, 1, 0, 1, 0, 1], heard[0])
        self.assertEqual([0, 8, 1, 5, 1, 3, 1, 3, 1], heard[1])
        self.assertEqual([0, 4, 1, 4, 1, 0, 1, 5, 1], heard[2])
        self.assertEqual([0, 0, 1, 0, 1, 0, 1, 4, 1], heard[3])

    def test_the_gate_of_what_leaves_is_that_of_the_tick_it_was_taken(self):
        heard = run(net(line("a", delay=2)), let(0, [100] * 5), gate(0, 1, 10), *[flow(0, t) for t in range(4)])[3:]
        self.assertEqual([0, 100, 1, 100, 1, 0, 1, 0, 1], heard[0])
        self.assertEqual([0, 10, 1, 10, 1, 0, 1, 100, 1], heard[2])
        self.assertEqual([0, 10, 1, 10, 1, 0, 1, 10, 1], heard[3])

    def test_a_way_of_8_keeps_all_its_digits(self):
        text = line("a", loss=1, gate=99)
        for name, where in zip("bcdefgh", "abcdefg"):
            text += line(name, where, loss=1, gate=99)
        heard = last(net(text), let(0, [1]), flow(7, 0))
        self.assertEqual([0, 99 ** 15, 100 ** 15, 99 ** 15, 100 ** 15, 0, 1, 99 ** 16, 100 ** 16], heard)

    def test_refused(self):
        start = [net(line("a") + line("b", "a")), let(0, [5])]
        for wrong in (flow(-1, 0), flow(2, 0), flow(0, -1), flow(0, 60), flow(FAR, 0), flow(0, -FAR), flow(-FAR, FAR)):
            self.assertEqual(REFUSED, last(*start, wrong), wrong)
        self.assertEqual(0, last(*start, flow(1, 59))[0])


class Comes(unittest.TestCase):
    def test_n_ticks_from_t_on(self):
        start = [net(line("a", delay=2, loss=50)), let(0, [1, 2, 3])]
        self.assertEqual([0, 0, 1, 0, 1, 1, 2, 1, 1, 3, 2, 0, 1], last(*start, comes(0, 0, 6)))
        self.assertEqual([0, 1, 1, 3, 2], last(*start, comes(0, 3, 2)))
        self.assertEqual([0, 3, 2], last(*start, comes(0, 4, 1)))

    def test_the_same_as_flow_tells(self):
        text = line("a", delay=1, loss=7, soak=3, cap=50, gate=80) + line("b", "a", delay=4, loss=3, soak=1, gate=33)
        start = [net(text), let(0, list(range(0, 600, 10))), gate(1, 20, 90)]
        for i in (0, 1):
            heard = run(*start, comes(i, 0, 60), *[flow(i, t) for t in range(60)])[3:]
            self.assertEqual(waters(heard[0]), [waters(answer)[3] for answer in heard[1:]])

    def test_water_behind_tick_59_is_not_seen_but_is_on_its_way(self):
        text = line("a", delay=10) + line("b", "a", delay=10)
        heard = run(net(text), let(0, [0] * 39 + [1] * 21), comes(0, 0, 60), comes(1, 50, 10), way(1))
        self.assertEqual([0] * 49 + [1] * 11, waters(heard[2]))
        self.assertEqual([0] * 9 + [1], waters(heard[3]))

    def test_n_to_the_last_tick(self):
        start = [net(line("a")), let(59, [4])]
        self.assertEqual([0, 4, 1], last(*start, comes(0, 59, 1)))
        self.assertEqual(121, len(last(*start, comes(0, 0, 60))))
        self.assertEqual([0] + [0, 1] * 28 + [4, 1], last(*start, comes(0, 31, 29)))

    def test_refused_and_nothing_changed(self):
        start = [net(line("a") + line("b", "a")), let(0, [5, 6])]
        seen = run(*start, *sight(2))[2:]
        for wrong in (
            comes(-1, 0, 1), comes(2, 0, 1), comes(0, -1, 1), comes(0, 60, 1), comes(0, 0, 0), comes(0, 0, -1),
            comes(0, 0, 61), comes(0, 59, 2), comes(0, 31, 30), comes(FAR, 0, 1), comes(0, FAR, 1), comes(0, 0, FAR),
            comes(0, 0, -FAR), comes(0, -FAR, FAR), comes(0, 60, 0), comes(0, -1, 60),
        ):
            heard = run(*start, wrong, *sight(2))
            self.assertEqual(REFUSED, heard[2], wrong)
            self.assertEqual(seen, heard[3:], wrong)
