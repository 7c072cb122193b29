"""The fewest cuts, and what cuts must lie behind a run that is seen."""

from runsdown.checks import check_loop, check_lot
from runsdown.errors import Unfit
from runsdown.runs import children_of, is_way, nearest, run, standing


def moves(kin, before, place):
    """Return the places to which a search for one more way can go on.

    A place is (loop, passed): a loop that is reached, or one that is passed.
    A search that reaches a loop of a way goes back along this way, and from
    a loop that it comes to there it may leave the way, or go further back.
    """
    loop, passed = place
    if passed:
        back = [(loop, False)] if loop in before else []
        return back + [(child, False) for child in kin[loop]]
    if loop not in before:
        return [(loop, True)]
    if before[loop] is None:
        return []
    return [(before[loop], True)]


def search(kin, starts, ends, before):
    """Look for one more way from one of some loops to one of others.

    Return from where each place was reached, and the place where the search
    came to an end, None if it came to none.
    """
    goals = set(ends)
    came = {(loop, False): None for loop in starts}
    waiting = list(came)
    while waiting:
        place = waiting.pop()
        loop, passed = place
        if passed and loop in goals:
            return came, place
        for other in moves(kin, before, place):
            if other not in came:
                came[other] = place
                waiting.append(other)
    return came, None


def add_way(came, place, before, after):
    """Add the way that a search has found to the ways so far, which may change.

    Before and after tell of each loop of a way the loops beside it there,
    None at the way's ends.
    """
    path = []
    while place is not None:
        path.append(place)
        place = came[place]
    path.reverse()
    before[path[0][0]] = None
    for (loop, passed), (other, _) in zip(path, path[1:]):
        # The other steps, through a loop or back along a way, need nothing:
        # the loops beside these are told anew by the steps around them.
        if passed:
            if loop == other:
                del before[loop], after[loop]
            else:
                after[loop] = other
                before[other] = loop
    after[path[-1][0]] = None


def follow(after, loop):
    """Return the way that begins with a loop."""
    way = [loop]
    while after[way[-1]] is not None:
        way.append(after[way[-1]])
    return way


def apart(kin, starts, ends):
    """Return ways from loops of starts to loops of ends, and cuts.

    There are as many ways as there can be without a loop in common, and as
    many cuts, by which there is no such way left.
    """
    before, after = {}, {}
    came, place = search(kin, starts, ends, before)
    while place is not None:
        add_way(came, place, before, after)
        came, place = search(kin, starts, ends, before)
    firsts = [loop for loop in sorted(before) if before[loop] is None]
    cuts = [loop for loop in sorted(before) if (loop, False) in came and (loop, True) not in came]
    return [follow(after, loop) for loop in firsts], cuts


def free(cloth, loop):
    """Return the ways up from a loop and the cuts that free it.

    Both are None if it is fast.
    """
    check_loop(loop, len(cloth))
    if loop in cloth.fast:
        return None, None
    kin = children_of(cloth)
    ways, cuts = apart(kin, kin[loop], cloth.fast)
    return [[loop] + way for way in ways], cuts


def fewest_cuts(cloth, loop):
    """Return the least number of cuts of other loops by which a loop runs."""
    cuts = cuts_for(cloth, loop)
    return None if cuts is None else len(cuts)


def cuts_for(cloth, loop):
    """Return as few cuts of other loops as any by which a loop runs."""
    return free(cloth, loop)[1]


def ways_for(cloth, loop):
    """Return as many ways up from a loop, two of which have only it in common."""
    return free(cloth, loop)[0]


def judge_ways(cloth, loop, value):
    """Tell whether any value is such a list as ways_for returns."""
    many = fewest_cuts(cloth, loop)
    if not isinstance(value, list) or len(value) != many:
        return False
    if not all([is_way(cloth, way) and way[0] == loop for way in value]):
        return False
    others = [other for way in value for other in way[1:]]
    return len(set(others)) == len(others)


def free_all(cloth, lot):
    """Return the ways up from loops of a list and the cuts that free them all."""
    check_lot(lot, len(cloth))
    return apart(children_of(cloth), lot, cloth.fast)


def fewest_for_all(cloth, lot):
    """Return the least number of cuts by which all loops of a list run."""
    return len(cuts_for_all(cloth, lot))


def cuts_for_all(cloth, lot):
    """Return as few cuts as any by which all loops of a list run."""
    return free_all(cloth, lot)[1]


def ways_for_all(cloth, lot):
    """Return as many ways up from loops of a list without a loop in common."""
    return free_all(cloth, lot)[0]


def is_run_lot(cloth, lot):
    """Tell whether just the loops of a list have run behind some cuts."""
    return run(cloth, lot) == sorted(lot)


def least_cuts(cloth, lot):
    """Return the cuts that must lie behind a lot that has run, None if none can."""
    if not is_run_lot(cloth, lot):
        return None
    loops = cloth.loops
    held = set(cloth.fast)
    for loop in standing(cloth, lot):
        for parent in loops[loop][1]:
            held.add(parent)
    return [loop for loop in sorted(lot) if loop in held]


def fits(cloth, stood, ran):
    """Tell whether behind some cuts all of stood stand and all of ran have run."""
    check_lot(stood, len(cloth))
    # Cutting just the loops that have run leaves as many standing as can be.
    left = set(standing(cloth, ran))
    return all([loop in left for loop in stood])


def least_run(cloth, stood, ran):
    """Return the least lot that can have run then, None if nothing fits."""
    return run(cloth, ran) if fits(cloth, stood, ran) else None


def surely(cloth, stood, ran):
    """Return the loops that surely stand, those that surely ran, the open ones."""
    if not fits(cloth, stood, ran):
        raise Unfit(0)
    many = len(cloth)
    near = nearest(cloth, ran)
    sure = set()
    # A loop surely stands if by its cut one would run that stood.
    for loop in stood:
        one = loop
        while one < many and one not in sure:
            sure.add(one)
            one = near[one]
    gone = run(cloth, ran)
    rest = [loop for loop in range(many) if loop not in sure and loop not in gone]
    return sorted(sure), gone, rest


def shown(cloth, stood, ran, loop):
    """Return cuts behind which an open loop stands, and cuts behind which it ran."""
    check_lot(stood, len(cloth))
    check_lot(ran, len(cloth))
    check_loop(loop, len(cloth))
    if loop not in surely(cloth, stood, ran)[2]:
        return None
    return sorted(ran), sorted(ran + [loop])


def loose(cloth, near):
    """Return the loops that stand, are not fast and run by no child's single cut."""
    loops, many = cloth.loops, len(cloth)
    fast = set(cloth.fast)
    # If there is such a child, it is the nearest one.
    return [
        loop for loop in standing(cloth, [])
        if loop not in fast and (near[loop] == many or loop not in loops[near[loop]][1])
    ]


def adds_up(cloth):
    """Tell whether each run is the union of the runs of its single cuts."""
    return not loose(cloth, nearest(cloth, []))


def joint_cuts(cloth):
    """Return as few cuts as any that take a loop together, but none of them alone.

    None if there are no such cuts.
    """
    loops, kin, near = cloth.loops, children_of(cloth), nearest(cloth, [])
    best = None
    for loop in loose(cloth, near):
        # Cuts above the nearest taker take this one, too, so those that take
        # it together with the loop need not be looked for here.
        goal = near[loop]
        ends = loops[goal][1] if goal < len(loops) else cloth.fast
        cuts = apart(kin, kin[loop], ends)[1]
        if best is None or len(cuts) < len(best):
            best = cuts
    return best
