"""Journals, which tell the deeds of a house as lines."""

from seamfast.errors import BadLine, CaptionError, Torn
from seamfast.forms import items_of
from seamfast.house import PLAN, REEL, ROLL, STRIKE, House
from seamfast.lines import LineWords, first_word
from seamfast.plans import Plan
from seamfast.plantext import scan_plan, write_plan
from seamfast.reels import Reel
from seamfast.reeltext import scan_reel, write_reel
from seamfast.rolltext import read_roll, write_roll

DONE = "done"


def deed_lines(deed):
    """The lines of a deed."""
    word = deed[0]
    if word == REEL:
        return [f"{REEL} {deed[1]}", *write_reel(deed[2]), DONE]
    if word == PLAN:
        return [f"{PLAN} {deed[1]} {deed[2]}", *write_plan(deed[3]), DONE]
    if word == ROLL:
        return [f"{ROLL} {deed[1]} {deed[2]} {write_roll(deed[3].written)}"]
    return [f"{STRIKE} {deed[1]}"]


def write_journal(house):
    """The lines of the deeds of a house."""
    lines = []
    for deed in house.deeds:
        lines.extend(deed_lines(deed))
    return tuple(lines)


def scan_head(lines, number, word, many):
    """The line with this number, which begins with the word and so many names, and these names."""
    line = LineWords(lines, number)
    line.take_one_of((word,))
    return line, [line.take_name() for _ in range(many)]


def line_behind_done(lines, number):
    """The number of the line behind this one, which must tell that a thing is done."""
    line, _ = scan_head(lines, number, DONE, 0)
    line.finish()
    return number + 1


def take_reel(house, lines, number):
    """Does the deed that begins with this line; the number of the line behind it."""
    line, names = scan_head(lines, number, REEL, 1)
    line.finish()
    length, cues, behind = scan_reel(lines, number + 1)
    behind = line_behind_done(lines, behind)
    house.keep_reel(names[0], Reel(length, cues))
    return behind


def take_plan(house, lines, number):
    """Does the deed that begins with this line; the number of the line behind it."""
    line, names = scan_head(lines, number, PLAN, 2)
    line.finish()
    pieces, arrows, starts, ends, behind = scan_plan(lines, number + 1)
    behind = line_behind_done(lines, behind)
    name, of = names
    house.keep_plan(name, of, Plan(house.thing_of(REEL, of), pieces, arrows, starts, ends))
    return behind


def take_roll(house, lines, number):
    """Does the deed of this line; the number of the line behind it."""
    line, names = scan_head(lines, number, ROLL, 2)
    words = [line.take_filled()]
    while line.has_more():
        words.append(line.take_filled())
    name, of = names
    house.keep_roll(name, of, read_roll(house.thing_of(PLAN, of), " ".join(words)))
    return number + 1


def take_strike(house, lines, number):
    """Does the deed of this line; the number of the line behind it."""
    line, names = scan_head(lines, number, STRIKE, 1)
    line.finish()
    house.strike(names[0])
    return number + 1


def take_deed(house, lines, number):
    """Does the deed that begins with the line with this number; the number of the line behind it."""
    word = first_word(lines, number)
    if word == REEL:
        return take_reel(house, lines, number)
    if word == PLAN:
        return take_plan(house, lines, number)
    if word == ROLL:
        return take_roll(house, lines, number)
    if word == STRIKE:
        return take_strike(house, lines, number)
    raise BadLine(number, 0)


def read_journal(lines):
    """The house whose deeds the lines tell."""
    kept = items_of(lines)
    house = House()
    number = 0
    while number < len(kept):
        try:
            number = take_deed(house, kept, number)
        except CaptionError as why:
            raise Torn(number) from why
    return house


def taken_up(lines):
    """The house that the longest good beginning of whole deeds tells, and the number of its lines."""
    kept = items_of(lines)
    house = House()
    number = 0
    while number < len(kept):
        try:
            number = take_deed(house, kept, number)
        except CaptionError:
            break
    return house, number
