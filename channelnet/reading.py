"""Reads a net's text into reaches."""

from channelnet.state import SOURCE, Reach, beginning_at

LETTERS = "abcdefghijklmnopqrstuvwxyz"
DIGITS = "0123456789"
FORM = ("reach", "from", "delay", "loss", "soak", "cap", "gate")
LEAST = (0, 0, 0, 1, 0)
GREATEST = (10, 99, 1000, 100000, 100)
MOST_REACHES = 30
LONGEST_WAY = 8
LONGEST_NAME = 8
LONGEST_NUMBER = 8
NOWHERE = -2


def sign_of(byte):
    # No word of the form has any other sign, so one stand-in serves for all of them.
    if 97 <= byte <= 122:
        return LETTERS[byte - 97]
    if 48 <= byte <= 57:
        return DIGITS[byte - 48]
    return "?"


def words_of(line):
    """The words of a line of bytes."""
    words = []
    word = ""
    for byte in line + [32]:
        if byte != 32:
            word = word + sign_of(byte)
        elif word != "":
            words.append(word)
            word = ""
    return words


def lines_of(text):
    """The lines of a text of bytes, each without its byte 10."""
    lines = []
    line = []
    for byte in text:
        if byte == 10:
            lines.append(line)
            line = []
        else:
            line.append(byte)
    if len(line) > 0:
        lines.append(line)
    return lines


def has_form(words):
    """Whether a line has the words of the form at their places."""
    if len(words) != 2 * len(FORM):
        return False
    return all([words[2 * k] == FORM[k] for k in range(len(FORM))])


def is_number(word):
    """Whether a word is a number: digits without a needless 0 in front, and not too many."""
    return word.isdigit() and len(word) <= LONGEST_NUMBER and (word == "0" or word[0] != "0")


def are_numbers_right(words):
    """Whether the words for D, L, K, C and G are numbers in their ranges."""
    for k, word in enumerate(words):
        if not is_number(word) or not LEAST[k] <= int(word) <= GREATEST[k]:
            return False
    return True


def is_name_free(name, reaches):
    """Whether a word may be the name of a reach told behind these."""
    if not name.isalpha() or len(name) > LONGEST_NAME:
        return False
    if name in FORM or name == "source":
        return False
    return all([reach.name != name for reach in reaches])


def place_of(where, reaches):
    """The place that a word names, or NOWHERE."""
    if where == "source":
        return SOURCE
    for k, reach in enumerate(reaches):
        if reach.name == where:
            return k
    return NOWHERE


def reach_at(name, place, numbers, reaches):
    """The reach of that name that begins at that place."""
    if place == SOURCE:
        return Reach(name, place, 0, 1, numbers)
    before = reaches[place]
    return Reach(name, place, before.above + before.delay, before.depth + 1, numbers)


def fits(reach, reaches):
    """Whether a reach may be told behind these: its way not too long, nor too much parted where it begins."""
    beside = [reaches[k].gate for k in beginning_at(reaches, reach.begins)]
    return len(reaches) < MOST_REACHES and reach.depth <= LONGEST_WAY and sum(beside) + reach.gate <= 100


def read_reach(words, reaches):
    """The reach that a line's words tell behind these reaches, or None if the line is wrong."""
    if not has_form(words):
        return None
    told = [words[k] for k in (5, 7, 9, 11, 13)]
    if not is_name_free(words[1], reaches) or not are_numbers_right(told):
        return None
    place = place_of(words[3], reaches)
    if place == NOWHERE:
        return None
    reach = reach_at(words[1], place, [int(word) for word in told], reaches)
    if not fits(reach, reaches):
        return None
    return reach


def read_net(text):
    """The reaches of a text and 0; or none and the wrong line's number."""
    reaches = []
    lines = lines_of(text)
    for number, line in enumerate(lines, start=1):
        words = words_of(line)
        if len(words) > 0:
            reach = read_reach(words, reaches)
            if reach is None:
                return ([], number)
            reaches.append(reach)
    if len(reaches) == 0:
        return ([], len(lines) + 1)
    return (reaches, 0)
