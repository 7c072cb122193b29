"""Values of the kinds that an argument with a listed error may have."""

from runsdown.cloths import Cloth
from runsdown.errors import RunError

NO_INTEGERS = [
    None, True, False, "", "0", "a", "x" * 200, (), (0,), [], [0], ["a", ()],
    [[[[[[0]]]]]], ((((((0,),),),),),), Cloth([], []), Cloth([("a", ())], [0]), RunError(0),
]
BELOW_ONE = [0, -1, -2, -10 ** 39]
NO_LISTS = [
    None, True, False, 0, 1, -1, 10 ** 39, "", "ab", "x" * 200, (), (0,), (("a", ()),),
    Cloth([], []), RunError(0),
]
NO_TUPLES = [None, True, False, 0, 1, 10 ** 39, "", "ab", [], [0], ["a", ()], Cloth([], [])]
NO_THREADS = [
    None, True, 0, 3, (), ("a",), [], ["a"], "", "abcdefghi", "a" * 200, "A", "aB", "a1", "1", " ",
    "a b", "a ", " a", "a\n", "a_", "a-b", "`", "{", "@", "[", "\u00e9", "\u00df", "\u03b1",
]
THREADS = ["a", "z", "m", "az", "abcdefgh", "zzzzzzzz", "loop"]
