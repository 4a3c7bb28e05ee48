"""Calls 15, 16 and 17: ends, print and counts."""

import unittest

from helpers import counts, ends, gate, ifcap, last, let, line, net, print_text, run, said, set_gates, sight
from test_most import way_of_8
from test_wants_set import names_of, tree


class Ends(unittest.TestCase):
    def test_one_reach(self):
        self.assertEqual([0, 1, 0], last(net(line("a")), ends()))

    def test_by_their_numbers(self):
        self.assertEqual([0, 3, 3, 4, 5], last(net(tree()), ends()))
        text = line("a", gate=1) + line("b", gate=1) + line("c", gate=1) + line("d", "b")
        self.assertEqual([0, 3, 0, 2, 3], last(net(text), ends()))

    def test_a_way(self):
        self.assertEqual([0, 1, 7], last(net(way_of_8()), ends()))

    def test_a_gate_at_0_makes_no_end(self):
        self.assertEqual([0, 1, 1], last(net(line("a") + line("b", "a", gate=0)), ends()))
        self.assertEqual([0, 1, 1], last(net(line("a") + line("b", "a")), gate(1, 0, 0), ends()))

    def test_30_reaches(self):
        text = "".join([line(name, gate=1) for name in names_of(30)])
        self.assertEqual([0, 30] + list(range(30)), last(net(text), ends()))

    def test_of_the_net_that_is_now(self):
        self.assertEqual([0, 1, 0], last(net(tree()), net(line("a")), ends()))
        self.assertEqual([0, 3, 3, 4, 5], last(net(tree()), net("wrong"), ends()))


class Print(unittest.TestCase):
    def test_one_line(self):
        text = "reach a from source delay 1 loss 2 soak 3 cap 4 gate 5\n"
        self.assertEqual([0, 55] + [ord(sign) for sign in text], last(net(text), print_text()))

    def test_one_blank_between_and_each_line_ended(self):
        told = "\n   reach a  from source delay 1   loss 2 soak 3 cap 4 gate 5   \n\n  \nreach b from a delay 0 loss 0 soak 0 cap 1 gate 0"
        text = ("reach a from source delay 1 loss 2 soak 3 cap 4 gate 5\n"
                "reach b from a delay 0 loss 0 soak 0 cap 1 gate 0\n")
        self.assertEqual(said(text), last(net(told), print_text()))

    def test_in_the_order_in_which_they_were_told(self):
        self.assertEqual(said(tree()), last(net(tree()), print_text()))

    def test_the_least_and_the_greatest(self):
        text = (line("abcdefgh", delay=10, loss=99, soak=1000, cap=100000, gate=100)
                + line("z", "abcdefgh", delay=0, loss=0, soak=0, cap=1, gate=0))
        self.assertEqual(said(text), last(net(text), print_text()))

    def test_the_nets_gate_not_the_set_one(self):
        text = line("a", gate=30)
        self.assertEqual(said(text), last(net(text), gate(0, 0, 77), print_text()))

    def test_30_reaches_with_the_longest_words(self):
        names = [("abcdefg" + name)[-8:] for name in names_of(26)] + ["bbbbbbba", "bbbbbbbc", "bbbbbbbd", "bbbbbbbe"]
        text = line(names[0], delay=10, loss=99, soak=1000, gate=100)
        for k in range(1, 30):
            text += line(names[k], names[(k - 1) // 2], delay=10, loss=99, soak=1000, gate=50)
        self.assertEqual([0, 30, 15], last(net(text)))
        self.assertEqual(said(text), last(net(text), print_text()))

    def test_read_again_it_is_the_same_net(self):
        told = "  " + tree(a=dict(delay=3, loss=7, soak=2, cap=77, gate=95), e=dict(delay=10, gate=100)).replace(" cap", "   cap")
        printed = last(net(told), print_text())[2:]
        text = "".join([chr(byte) for byte in printed])
        after = [let(0, [100, 200, 3]), gate(1, 3, 5)] + sight(6)
        self.assertEqual(run(net(told), *after), run(net(text), *after))
        self.assertEqual([0, len(printed)] + printed, last(net(text), print_text()))

    def test_of_the_net_that_is_now(self):
        self.assertEqual(said(line("a", gate=3)), last(net(tree()), net(line("a", gate=3)), print_text()))
        self.assertEqual(said(tree()), last(net(tree()), net(line("a") + "wrong"), print_text()))


class Counts(unittest.TestCase):
    def test_a_new_net(self):
        self.assertEqual([0, 1, 1, 0, 0], last(net(line("a")), counts()))
        self.assertEqual([0, 6, 3, 0, 0], last(net(tree()), counts()))
        self.assertEqual([0, 8, 1, 0, 0], last(net(way_of_8()), counts()))

    def test_settings(self):
        start = [net(tree()), gate(0, 0, 5), gate(5, 59, 0), gate(0, 3, 9)]
        self.assertEqual([0, 6, 3, 3, 0], last(*start, counts()))

    def test_each_told_setting_counts(self):
        self.assertEqual([0, 1, 1, 2, 0], last(net(line("a")), gate(0, 4, 5), gate(0, 4, 6), counts()))

    def test_60_settings(self):
        start = [net(line("a"))] + [gate(0, t, t) for t in range(60)]
        self.assertEqual([0, 1, 1, 60, 0], last(*start, counts()))
        self.assertEqual([[-6], [0, 1, 1, 60, 0]], run(*start, gate(0, 0, 7), counts())[-2:])

    def test_refused_settings_do_not_count(self):
        start = [net(line("a", gate=40) + line("b", gate=60)), gate(0, 0, 41), gate(2, 0, 0), gate(0, 60, 0)]
        self.assertEqual([0, 2, 2, 0, 0], last(*start, counts()))

    def test_what_is_let_in(self):
        self.assertEqual([0, 1, 1, 0, 12], last(net(line("a", gate=0, cap=1)), let(0, [5]), let(58, [3, 4]), counts()))
        self.assertEqual([0, 1, 1, 0, 8], last(net(line("a")), let(0, [5, 6]), let(0, [1]), let(1, [0, 7]), counts()))
        self.assertEqual([0, 1, 1, 0, 60000000], last(net(line("a")), let(0, [1000000] * 60), counts()))
        self.assertEqual([0, 1, 1, 0, 5], last(net(line("a")), let(0, [5]), let(0, [6, -1]), counts()))

    def test_of_the_net_that_is_now(self):
        start = [net(tree()), let(0, [5]), gate(0, 0, 5)]
        self.assertEqual([0, 1, 1, 0, 0], last(*start, net(line("a")), counts()))
        self.assertEqual([0, 6, 3, 1, 5], last(*start, net("wrong"), counts()))
        self.assertEqual([0, 6, 3, 1, 5], last(*start, set_gates([1, 2, 3]), ifcap(0, 1), counts()))
