"""Which loops come out if the ends of threads are pulled."""

from runsdown.checks import check_loop, check_lot, is_number
from runsdown.errors import InvalidEnds
from runsdown.runs import children_of

SIDES = ("first", "last")


def pieces(cloth, cuts):
    """Return the list of the pieces into which cuts part the threads."""
    check_lot(cuts, len(cloth))
    cut = set(cuts)
    found = []
    for thread in cloth.threads:
        piece = []
        for loop in cloth.along(thread):
            if loop not in cut:
                piece.append(loop)
            elif piece:
                found.append(piece)
                piece = []
        if piece:
            found.append(piece)
    return found


def is_end(value, many):
    """Tell whether any value is an end of one of many pieces."""
    if not isinstance(value, tuple) or len(value) != 2:
        return False
    index, side = value
    return is_number(index, many) and isinstance(side, str) and side in SIDES


def check_ends(ends, many):
    """Raise InvalidEnds unless this is a list of different ends of many pieces."""
    if not isinstance(ends, list):
        raise InvalidEnds(-1)
    seen = set()
    for index, end in enumerate(ends):
        if not is_end(end, many) or end in seen:
            raise InvalidEnds(index)
        seen.add(end)


def from_ends(cloth, cuts, ends):
    """Return the loops of the pulled pieces, a list for each end, from this end on."""
    parts = pieces(cloth, cuts)
    check_ends(ends, len(parts))
    return [parts[index] if side == "first" else parts[index][::-1] for index, side in ends]


def pulled(cloth, cuts, lines, held):
    """Return the loops that come out of lines in a sequence, if held ones never do.

    Lines has the loops of pieces, each list from a pulled end on.
    """
    kin, stay = children_of(cloth), cloth.fast + held
    out = {loop: True for loop in cuts}
    order, more = [], True
    while more:
        more = False
        for line in lines:
            # What is out already leaves the loop behind it next in the line.
            for loop in line:
                if loop not in out:
                    if loop in stay or not all([child in out for child in kin[loop]]):
                        break
                    out[loop] = True
                    order.append(loop)
                    more = True
    return order


def comes_out(cloth, cuts, ends):
    """Return the list of the loops that come out if ends are pulled."""
    return sorted(pull_order(cloth, cuts, ends))


def pull_order(cloth, cuts, ends):
    """Return the loops that come out, in a sequence in which they can."""
    return pulled(cloth, cuts, from_ends(cloth, cuts, ends), [])


def judge_pulls(cloth, cuts, ends, value):
    """Tell whether any value is a list of loops that can come out in this sequence."""
    lines = from_ends(cloth, cuts, ends)
    if not isinstance(value, list):
        return False
    kin, stay = children_of(cloth), cloth.fast
    out = {loop: True for loop in cuts}
    for loop in value:
        if not is_number(loop, len(kin)) or loop in out or loop in stay:
            return False
        fronts = [[other for other in line if other not in out][:1] for line in lines]
        if [loop] not in fronts or not all([child in out for child in kin[loop]]):
            return False
        out[loop] = True
    return True


def out_ahead(cloth, cuts, ends, loop):
    """Return the loops that are out ahead of a loop in every sequence.

    None if it does not come out, or is cut.
    """
    lines = from_ends(cloth, cuts, ends)
    check_loop(loop, len(cloth))
    order = pulled(cloth, cuts, lines, [])
    if loop not in order:
        return None
    # Those without which it does not come out; all of them are ahead of it here.
    ahead = order[:order.index(loop)]
    return sorted([other for other in ahead if loop not in pulled(cloth, cuts, lines, [other])])


def needless_ends(cloth, cuts, ends):
    """Return the ends without which, each by itself, the same loops come out."""
    lines = from_ends(cloth, cuts, ends)
    many = len(pulled(cloth, cuts, lines, []))
    # Fewer ends never let other loops out, so it is enough to count them.
    return [
        end for index, end in enumerate(ends)
        if len(pulled(cloth, cuts, lines[:index] + lines[index + 1:], [])) == many
    ]
