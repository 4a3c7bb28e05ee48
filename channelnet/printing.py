"""Writes a net's reaches as a text."""

from channelnet.state import SOURCE


def line_of(reaches, i):
    """The line that tells reach i, with its line feed."""
    reach = reaches[i]
    where = "source"
    if reach.begins != SOURCE:
        where = reaches[reach.begins].name
    words = ["reach", reach.name, "from", where, "delay", str(reach.delay), "loss", str(reach.loss)]
    words.extend(["soak", str(reach.soak), "cap", str(reach.cap), "gate", str(reach.gate)])
    return " ".join(words) + "\n"


def text_of(reaches):
    """The bytes of all lines."""
    text = "".join([line_of(reaches, i) for i in range(len(reaches))])
    return [ord(sign) for sign in text]
