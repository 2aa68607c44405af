"""Reels written as lines."""

from seamfast.errors import BadLine
from seamfast.lines import LineWords, first_word
from seamfast.reels import MOST_TICKS, Reel, has_percent


def write_reel(reel):
    """The lines of a reel."""
    lines = [f"reel {reel.length}"]
    for start, end, speaker, text in reel.cues:
        lines.append(f"cue {start} {end} {speaker} {text}")
    return tuple(lines)


def take_text(line):
    """The text that the rest of a line is."""
    words = []
    while line.has_more() or len(words) == 0:
        word = line.take_any()
        if word == "" or has_percent(word):
            raise BadLine(line.number, line.taken - 1)
        words.append(word)
    return " ".join(words)


def scan_cue(lines, number):
    """The cue that a line tells."""
    line = LineWords(lines, number)
    line.take_one_of(("cue",))
    start = line.take_number(0, MOST_TICKS)
    end = line.take_number(0, MOST_TICKS)
    speaker = line.take_name()
    return start, end, speaker, take_text(line)


def scan_reel(lines, number):
    """The length and the cues that the lines of a reel tell from here on, and the number of the line behind."""
    line = LineWords(lines, number)
    line.take_one_of(("reel",))
    length = line.take_number(1, MOST_TICKS)
    line.finish()
    number += 1
    cues = []
    while first_word(lines, number) == "cue":
        cues.append(scan_cue(lines, number))
        number += 1
    return length, tuple(cues), number


def read_reel(lines):
    """The reel that the lines tell."""
    length, cues, number = scan_reel(lines, 0)
    if number < len(lines):
        raise BadLine(number, 0)
    return Reel(length, cues)
