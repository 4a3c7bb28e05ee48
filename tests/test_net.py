"""Call 0, net: how a text is read, and what a new net does."""

import unittest

from helpers import account, accounts, comes, flow, gate, last, let, line, need, net, run, sight, way

GOOD = "reach a from source delay 0 loss 0 soak 0 cap 1 gate 0"


def chain(length):
    """One way of so many reaches."""
    names = "abcdefghijklmnop"
    text = line(names[0])
    for k in range(1, length):
        text += line(names[k], names[k - 1])
    return text


def fan(many):
    """So many reaches, each at the source with its gate at 0."""
    text = ""
    for k in range(many):
        text += line("n" + "abcdefghijklmnopqrstuvwxyz"[k % 26] + "xy"[k // 26], gate=0, cap=1)
    return text


class Lines(unittest.TestCase):
    def test_counts_of_reaches_and_ends(self):
        self.assertEqual([0, 1, 1], last(net(line("a"))))
        tree = line("a") + line("b", "a", gate=50) + line("c", "a", gate=50) + line("d", "c")
        self.assertEqual([0, 4, 2], last(net(tree)))
        self.assertEqual([0, 3, 3], last(net(fan(3))))

    def test_last_byte_10_may_be_missing(self):
        self.assertEqual([0, 1, 1], last(net(GOOD)))
        self.assertEqual([0, 1, 1], last(net(GOOD + "\n")))
        self.assertEqual([0, 2, 1], last(net((line("a") + line("b", "a"))[:-1])))

    def test_without_a_reach_one_more_than_the_lines(self):
        for text, number in [
            ("", 1), ("\n", 2), (" ", 2), (" \n", 2), ("\n\n", 3), ("\n ", 3), ("  \n \n\n", 4), ("\n" * 3000, 3001),
        ]:
            self.assertEqual([1, number], last(net(text)), repr(text))

    def test_empty_lines_mean_nothing_but_count(self):
        self.assertEqual([0, 2, 1], last(net("\n  \n" + line("a") + "\n" + line("b", "a") + "   ")))
        self.assertEqual([1, 4], last(net("\n  \n" + line("a") + "wrong\n")))

    def test_any_number_of_blanks_between_words(self):
        self.assertEqual([0, 1, 1], last(net("   " + GOOD.replace(" ", "   ") + "  \n")))

    def test_only_byte_32_parts_words_and_only_byte_10_ends_lines(self):
        for sign in ("\t", "\r", "\v", "\f", "\0", "\xa0", "\x85", "\x1c", "\xff"):
            self.assertEqual([1, 1], last(net(GOOD.replace(" ", sign, 1))), repr(sign))
            self.assertEqual([1, 1], last(net(GOOD + sign)), repr(sign))
            self.assertEqual([1, 1], last(net(sign)), repr(sign))
            self.assertEqual([1, 1], last(net(GOOD + sign + line("b"))), repr(sign))

    def test_words_in_their_places(self):
        words = GOOD.split()
        for k in range(len(words)):
            self.assertEqual([1, 1], last(net(" ".join(words[:k] + words[k + 1:]))), k)
            self.assertEqual([1, 1], last(net(" ".join(words[:k] + ["x"] + words[k:]))), k)
            self.assertEqual([1, 1], last(net(" ".join(words[:k] + [words[k].upper() + "?"] + words[k + 1:]))), k)
        self.assertEqual([1, 1], last(net(GOOD + " x")))
        self.assertEqual([1, 1], last(net(GOOD.replace("delay 0 loss 0", "loss 0 delay 0"))))
        for k in range(0, len(words), 2):
            self.assertEqual([1, 1], last(net(" ".join(words[:k] + [words[k].upper()] + words[k + 1:]))), k)

    def test_first_wrong_line_counts(self):
        self.assertEqual([1, 2], last(net(line("a") + "wrong\n" + "wrong too\n")))
        self.assertEqual([1, 1], last(net("wrong\n" + line("a"))))
        self.assertEqual([1, 3], last(net(line("a", gate=1) + line("b", gate=99) + line("a"))))


class Names(unittest.TestCase):
    def test_one_to_eight_letters(self):
        for name in ("a", "z", "abcdefgh", "reaches", "sources", "x" * 8):
            self.assertEqual([0, 1, 1], last(net(line(name))), name)
        for name in ("abcdefghi", "A", "aB", "a1", "1", "a-b", "a_b", "{", "`", "\xe4", "\xaa"):
            self.assertEqual([1, 1], last(net(line(name))), name)

    def test_none_of_the_words_of_the_form(self):
        for name in "reach from source delay loss soak cap gate".split():
            self.assertEqual([1, 1], last(net(line(name))), name)

    def test_unlike_the_others(self):
        self.assertEqual([1, 2], last(net(line("a", gate=0) + line("a", gate=0))))
        self.assertEqual([1, 3], last(net(line("a") + line("b", "a") + line("a", "b"))))
        self.assertEqual([0, 2, 2], last(net(line("a", gate=0) + line("aa", gate=0))))


class Places(unittest.TestCase):
    def test_begins_at_the_source_or_at_one_told_before(self):
        self.assertEqual([0, 2, 1], last(net(line("a") + line("b", "a"))))
        self.assertEqual([1, 1], last(net(line("b", "a") + line("a"))))
        self.assertEqual([1, 1], last(net(line("a", "a"))))
        self.assertEqual([1, 2], last(net(line("a") + line("b", "c"))))
        for where in ("Source", "sourc", "reach", "0", "?"):
            self.assertEqual([1, 2], last(net(line("a", gate=0) + line("b", where))), where)

    def test_where_it_begins_is_where_the_way_goes(self):
        text = line("a", gate=50) + line("b", gate=50) + line("c", "a") + line("d", "b") + line("e", "c")
        self.assertEqual([0, 0, 3, 0, 2, 4], last(net(text), way(4)))
        self.assertEqual([0, 0, 2, 1, 3], last(net(text), way(3)))

    def test_a_way_of_8_and_of_9(self):
        self.assertEqual([0, 8, 1], last(net(chain(8))))
        self.assertEqual([1, 9], last(net(chain(9))))
        self.assertEqual([1, 10], last(net(chain(8) + "\n" + line("i", "h", gate=0))))
        self.assertEqual([0, 9, 2], last(net(chain(8) + line("i", "g", gate=0))))

    def test_30_reaches_and_one_more(self):
        self.assertEqual([0, 30, 30], last(net(fan(30))))
        self.assertEqual([1, 31], last(net(fan(31))))
        self.assertEqual([1, 33], last(net("\n" + fan(30) + "\n" + line("last", "nax"))))
        self.assertEqual([1, 31], last(net(fan(30) + "wrong\n")))

    def test_gates_of_one_place_together(self):
        self.assertEqual([0, 2, 2], last(net(line("a", gate=60) + line("b", gate=40))))
        self.assertEqual([1, 2], last(net(line("a", gate=60) + line("b", gate=41))))
        self.assertEqual([0, 3, 3], last(net(line("a", gate=60) + line("b", gate=40) + line("c", gate=0))))
        self.assertEqual([1, 3], last(net(line("a", gate=60) + line("b", gate=40) + line("c", gate=1))))
        below = line("a") + line("b", "a", gate=30) + line("c", "a", gate=30)
        self.assertEqual([0, 4, 3], last(net(below + line("d", "a", gate=40))))
        self.assertEqual([1, 4], last(net(below + line("d", "a", gate=41))))
        self.assertEqual([0, 4, 2], last(net(below + line("d", "b", gate=41))))


class Numbers(unittest.TestCase):
    RANGES = [("delay", 0, 10), ("loss", 0, 99), ("soak", 0, 1000), ("cap", 1, 100000), ("gate", 0, 100)]

    def with_word(self, key, word):
        words = GOOD.split()
        words[words.index(key) + 1] = word
        return last(net(" ".join(words)))

    def test_smallest_and_largest(self):
        for key, least, most in self.RANGES:
            self.assertEqual([0, 1, 1], self.with_word(key, str(least)), key)
            self.assertEqual([0, 1, 1], self.with_word(key, str(most)), key)
            self.assertEqual([1, 1], self.with_word(key, str(most + 1)), key)
            self.assertEqual([1, 1], self.with_word(key, str(least - 1)), key)

    def test_needless_0_in_front(self):
        for key, least, most in self.RANGES:
            for word in ("00", "01", "05", "00000001", "0" + str(most)):
                self.assertEqual([1, 1], self.with_word(key, word), (key, word))

    def test_8_and_9_digits(self):
        for key, least, most in self.RANGES:
            for word in ("10000000", "99999999", "100000000", "000000001", "9" * 400):
                self.assertEqual([1, 1], self.with_word(key, word), (key, word))

    def test_digits_alone(self):
        for key, least, most in self.RANGES:
            for word in ("x", "1x", "x1", "+1", "-1", "-0", "1.0", "1_0", "0x1", "1e1", "\xb2", "1,", "/", ":", "?"):
                self.assertEqual([1, 1], self.with_word(key, word), (key, word))

    def test_each_number_is_taken_for_what_it_is(self):
        # 1000 let in: gate 50 offers 500, cap 400 takes 400, soak 10 leaves 390, loss 10 leaves 351, 3 ticks later.
        text = "reach a from source delay 3 loss 10 soak 10 cap 400 gate 50"
        heard = run(net(text), let(0, [1000]), flow(0, 0), flow(0, 3), way(0))
        self.assertEqual([0, 500, 1, 400, 1, 100, 1, 0, 1], heard[2])
        self.assertEqual([0, 0, 1, 0, 1, 0, 1, 351, 1], heard[3])
        self.assertEqual([0, 3, 1, 0], heard[4])


class Anew(unittest.TestCase):
    def test_a_new_net_has_nothing_let_in_and_no_settings(self):
        text = line("a", gate=50) + line("b", gate=10)
        heard = run(net(text), let(0, [100, 200]), gate(0, 0, 90), accounts(), net(text), accounts(), let(0, [100]),
                    account(0), comes(0, 0, 1))
        self.assertEqual([0, 300, 1, 0, 1, 0, 1, 0, 1], heard[3])
        self.assertEqual([0, 2, 2], heard[4])
        self.assertEqual([0, 0, 1, 0, 1, 0, 1, 0, 1], heard[5])
        self.assertEqual([0, 60, 1, 0, 1, 0, 1, 40, 1], heard[7])
        self.assertEqual([0, 50, 1], heard[8])

    def test_a_new_net_has_room_for_60_settings_again(self):
        calls = [net(line("a"))] + [gate(0, 0, 5)] * 58 + [net(line("b"))] + [gate(0, 0, 5)] * 60
        self.assertEqual([[0, 1, 1]] + [[0]] * 58 + [[0, 1, 1]] + [[0]] * 60, run(*calls))

    def test_the_new_reaches_stand_for_the_old(self):
        heard = run(net(line("a") + line("b", "a")), net(line("a")), way(0), way(1), need(1, 0, 1))
        self.assertEqual([[0, 0, 1, 0], [-1], [-1]], heard[2:])

    def test_a_wrong_text_changes_nothing(self):
        start = [net(line("a", delay=2) + line("b", "a", gate=70)), let(3, [500, 7]), gate(1, 4, 20)]
        seen = run(*start, *sight(2))[3:]
        for text in ("", "\n\n", "wrong", line("a") + line("b", "a") + line("c", "a") + line("d", "x"), chain(9)):
            heard = run(*start, net(text), *sight(2))
            self.assertEqual(1, heard[3][0])
            self.assertEqual(2, len(heard[3]))
            self.assertEqual(seen, heard[4:])

    def test_a_wrong_text_at_the_beginning_makes_no_net(self):
        self.assertEqual([[1, 1], [-9]], run(net("wrong"), accounts()))
        self.assertEqual([[1, 2], [0, 1, 1], [0, 0, 1, 0]], run(net(" "), net(line("a")), way(0)))
