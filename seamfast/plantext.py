"""Plans written as lines."""

from seamfast.errors import BadLine
from seamfast.lines import LineWords, first_word
from seamfast.plans import MOST_RATE, Plan
from seamfast.reels import MOST_TICKS


def write_plan(plan):
    """The lines of a plan."""
    lines = []
    for name, start, end, above, below, way in plan.pieces:
        lines.append(f"piece {name} {start} {end} {above} {below} {way}")
    for left, right in plan.arrows:
        lines.append(f"arrow {left} {right}")
    for name in plan.starts:
        lines.append(f"start {name}")
    for name in plan.ends:
        lines.append(f"end {name}")
    return tuple(lines)


def scan_piece(lines, number):
    """The piece that a line tells."""
    line = LineWords(lines, number)
    line.take_one_of(("piece",))
    name = line.take_name()
    start = line.take_number(0, MOST_TICKS)
    end = line.take_number(0, MOST_TICKS)
    above = line.take_number(1, MOST_RATE)
    below = line.take_number(1, MOST_RATE)
    way = line.take_one_of(Plan.WAYS)
    line.finish()
    return name, start, end, above, below, way


def scan_pieces(lines, number):
    """The pieces that lines tell from here on, and the number of the line behind them."""
    pieces = []
    while first_word(lines, number) == "piece":
        pieces.append(scan_piece(lines, number))
        number += 1
    return tuple(pieces), number


def scan_names(lines, number, word, many):
    """The tuples of so many names behind this word that lines tell, and the number of the line behind them."""
    rows = []
    while first_word(lines, number) == word:
        line = LineWords(lines, number)
        line.take_one_of((word,))
        rows.append(tuple([line.take_name() for _ in range(many)]))
        line.finish()
        number += 1
    return tuple(rows), number


def scan_plan(lines, number):
    """The pieces, arrows, starts and ends that the lines of a plan tell, and the number of the line behind."""
    pieces, number = scan_pieces(lines, number)
    arrows, number = scan_names(lines, number, "arrow", 2)
    starts, number = scan_names(lines, number, "start", 1)
    ends, number = scan_names(lines, number, "end", 1)
    return pieces, arrows, tuple([row[0] for row in starts]), tuple([row[0] for row in ends]), number


def read_plan(reel, lines):
    """The plan over the reel that the lines tell."""
    pieces, arrows, starts, ends, number = scan_plan(lines, 0)
    if number < len(lines):
        raise BadLine(number, 0)
    return Plan(reel, pieces, arrows, starts, ends)
