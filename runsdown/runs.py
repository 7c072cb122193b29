"""What stands and what runs behind cuts, and what a single loop takes along."""

from runsdown.checks import check_loop, check_lot, is_number, wrong_number


def children_of(cloth):
    """Return for each loop of a cloth the ascending list of its children."""
    loops = cloth.loops
    kin = [[] for _ in loops]
    for child, (_, parents) in enumerate(loops):
        for parent in parents:
            kin[parent].append(child)
    return kin


def standing(cloth, cuts):
    """Return the list of the loops that stand behind cuts."""
    loops = cloth.loops
    check_lot(cuts, len(loops))
    cut = set(cuts)
    held = set(cloth.fast)
    found = []
    # Children have greater numbers than their parents, so each loop comes
    # behind all that may hold it.
    for loop in reversed(range(len(loops))):
        if loop in held and loop not in cut:
            found.append(loop)
            for parent in loops[loop][1]:
                held.add(parent)
    return found[::-1]


def run(cloth, cuts):
    """Return the list of the loops that have run behind cuts, cut ones too."""
    stands = set(standing(cloth, cuts))
    return [loop for loop in range(len(cloth)) if loop not in stands]


def way_up(cloth, cuts, loop):
    """Return a way up from a loop behind cuts, None if it has run."""
    stands = set(standing(cloth, cuts))
    check_loop(loop, len(cloth))
    if loop not in stands:
        return None
    fast = set(cloth.fast)
    kin = children_of(cloth)
    way = [loop]
    while way[-1] not in fast:
        way.append([child for child in kin[way[-1]] if child in stands][0])
    return way


def run_order(cloth, cuts):
    """Return the loops that have run, each uncut one behind all its children."""
    return run(cloth, cuts)[::-1]


def is_way(cloth, value):
    """Tell whether any value is a way up in a cloth without cuts."""
    loops = cloth.loops
    if not isinstance(value, list) or not value:
        return False
    if not all([is_number(item, len(loops)) for item in value]):
        return False
    steps = [one in loops[other][1] for one, other in zip(value, value[1:])]
    return all(steps) and value[-1] in cloth.fast


def judge_way(cloth, cuts, loop, value):
    """Tell whether any value is a way up from a loop behind cuts."""
    check_lot(cuts, len(cloth))
    check_loop(loop, len(cloth))
    if not is_way(cloth, value) or value[0] != loop:
        return False
    return not any([item in cuts for item in value])


def judge_order(cloth, cuts, value):
    """Tell whether any value is such a list as run_order returns."""
    ran = run(cloth, cuts)
    if wrong_number(value, len(cloth)) is not None or sorted(value) != ran:
        return False
    cut = set(cuts)
    ahead = set()
    kin = children_of(cloth)
    for loop in value:
        if loop not in cut and not all([child in ahead for child in kin[loop]]):
            return False
        ahead.add(loop)
    return True


def meeting(near, one, other):
    """Return the first loop of both the chains of takers of two loops."""
    while one != other:
        # Takers have greater numbers, so the lesser one is in one chain only.
        if one < other:
            one = near[one]
        else:
            other = near[other]
    return one


def nearest(cloth, cuts):
    """Return for each loop that stands behind cuts the nearest other one.

    That is the one nearest to it of those by whose single cut, besides
    these, it runs. If there is none, and for a loop that has run, the number
    of loops stands in its place: all chains of takers end there.
    """
    many = len(cloth)
    found = standing(cloth, cuts)
    stands = set(found)
    fast = set(cloth.fast)
    kin = children_of(cloth)
    near = [many] * many
    for loop in reversed(found):
        if loop not in fast:
            held = [child for child in kin[loop] if child in stands]
            near[loop] = held[0]
            for child in held[1:]:
                near[loop] = meeting(near, near[loop], child)
    return near


def taken(cloth, loop):
    """Return the list of the loops that stand without cuts and run by this cut."""
    check_loop(loop, len(cloth))
    left = set(standing(cloth, [loop]))
    return [one for one in standing(cloth, []) if one not in left]


def taker(cloth, loop):
    """Return the nearest other loop by whose single cut a loop runs, or None."""
    check_loop(loop, len(cloth))
    return takers(cloth)[loop]


def takers(cloth):
    """Return the list of the takers of all loops."""
    many = len(cloth)
    return [one if one < many else None for one in nearest(cloth, [])]


def worst_cut(cloth):
    """Return the first loop that takes the most loops, and how many it takes."""
    many = len(cloth)
    if many == 0:
        return None
    near = nearest(cloth, [])
    takes = [0] * (many + 1)
    # What a loop takes, its taker takes, too; takers have greater numbers.
    for loop in standing(cloth, []):
        takes[loop] += 1
        takes[near[loop]] += takes[loop]
    most = max(takes[:many])
    return takes.index(most), most
