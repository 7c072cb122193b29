"""Cloths and charts as texts."""

from runsdown.charts import Chart, is_chart_row
from runsdown.cloths import Cloth, is_loop, is_parents
from runsdown.errors import InvalidText

MOST_DIGITS = 9


def write_cloth(cloth):
    """Return the text of a cloth."""
    lines = [[thread] + [str(parent) for parent in parents] for thread, parents in cloth.loops]
    lines.append(["="] + [str(loop) for loop in cloth.fast])
    return "".join([" ".join(words) + "\n" for words in lines])


def write_chart(chart):
    """Return the text of a chart."""
    lines = [["width", str(chart.width)]]
    for thread, offset, stitches in chart.rows:
        lines.append([thread, str(offset)] + [f"{taken}:{drawn}" for taken, drawn in stitches])
    return "".join([" ".join(words) + "\n" for words in lines])


def read_number(word):
    """Return the number that a word tells, None if it tells none."""
    if not 1 <= len(word) <= MOST_DIGITS or not all(["0" <= sign <= "9" for sign in word]):
        return None
    return int(word) if word == "0" or word[0] != "0" else None


def read_numbers(words):
    """Return the tuple of the numbers of words; those that tell none give None."""
    return tuple([read_number(word) for word in words])


def read_stitch(word):
    """Return what a word J:K tells, a tuple of numbers or None."""
    return read_numbers(word.split(":"))


def split_text(text):
    """Return the lines of a text, lists of words, and whether the last one is ended."""
    if not isinstance(text, str):
        raise InvalidText(0)
    lines = text.split("\n")
    ended = lines[-1] == ""
    if ended:
        lines.pop()
    return [line.split(" ") for line in lines], ended


def read_cloth(text):
    """Return the cloth that has a text."""
    lines, ended = split_text(text)
    loops, fast = [], None
    for index, (word, *words) in enumerate(lines):
        numbers = read_numbers(words)
        if fast is not None:
            raise InvalidText(index)
        if word == "=" and is_parents(numbers, len(loops)):
            fast = list(numbers)
        elif is_loop((word, numbers), index):
            loops.append((word, numbers))
        else:
            raise InvalidText(index)
    if fast is None or not ended:
        raise InvalidText(len(lines))
    return Cloth(loops, fast)


def read_width(words):
    """Return the width that the words of a line tell, None if they tell none."""
    if len(words) != 2 or words[0] != "width":
        return None
    width = read_number(words[1])
    return None if width == 0 else width


def read_row(words, count):
    """Return the row of a chart, which takes count loops, that words tell, or None."""
    if len(words) < 2:
        return None
    row = (words[0], read_number(words[1]), tuple([read_stitch(word) for word in words[2:]]))
    return row if is_chart_row(row, count) else None


def read_chart(text):
    """Return the chart that has a text."""
    lines, ended = split_text(text)
    rows, counts = [], []
    for index, words in enumerate(lines):
        if index == 0:
            count = read_width(words)
        else:
            row = read_row(words, counts[-1])
            rows.append(row)
            count = None if row is None else sum([drawn for _, drawn in row[2]])
        if count is None:
            raise InvalidText(index)
        counts.append(count)
    if not rows or not ended or counts[-1] != counts[0]:
        raise InvalidText(len(lines))
    return Chart(counts[0], rows)
