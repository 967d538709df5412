"""Values that are not allowed, for each kind of argument."""

HUGE = 10 ** 30


def nested(depth):
    """A value like a tree, but nested much deeper than any."""
    value = 0
    for _ in range(depth):
        value = ("all", (value, 1))
    return value


# For a map of three houses or fewer; each with the word that the error names.
MAPS = (
    (None, "map"), (True, "map"), (False, "map"), (0, "map"), (3, "map"), ("", "map"), ("map", "map"),
    ("3", "map"), ([], "map"), ([3, ()], "map"), ({}, "map"), ({3: ()}, "map"), ((), "map"),
    ((3,), "map"), ((3, (), ()), "map"), ((3, ((0, 1),), None), "map"), ("ab", "map"),
    ({0: 3, 1: ()}, "map"), (nested(3000), "houses"),
    ((0, ()), "houses"), ((8, ()), "houses"), ((-1, ()), "houses"), ((HUGE, ()), "houses"),
    ((True, ()), "houses"), ((False, ()), "houses"), ((None, ()), "houses"), (("3", ()), "houses"),
    (((3,), ()), "houses"), (([3], ()), "houses"), (({3: 3}, ()), "houses"), (((), 3), "houses"),
    ((8, None), "houses"), ((0, ((1, 0),)), "houses"), ((True, [(0, 1)]), "houses"),
    ((3, None), "pairs"), ((3, True), "pairs"), ((3, False), "pairs"), ((3, 0), "pairs"),
    ((3, ""), "pairs"), ((3, "01"), "pairs"), ((3, []), "pairs"), ((3, {}), "pairs"),
    ((3, {(0, 1): True}), "pairs"), ((3, [(0, 1)]), "pairs"), ((3, ([0, 1],)), "pairs"),
    ((3, (0, 1)), "pairs"), ((3, ("01",)), "pairs"), ((3, (None,)), "pairs"), ((3, ({},)), "pairs"),
    ((3, ((),)), "pairs"), ((3, ((0,),)), "pairs"), ((3, ((0, 1, 2),)), "pairs"),
    ((3, ((1, 0),)), "pairs"), ((3, ((1, 1),)), "pairs"), ((3, ((0, 3),)), "pairs"),
    ((3, ((-1, 0),)), "pairs"), ((3, ((0, HUGE),)), "pairs"), ((1, ((0, 1),)), "pairs"),
    ((7, ((6, 7),)), "pairs"), ((3, ((False, 1),)), "pairs"), ((3, ((0, True),)), "pairs"),
    ((3, ((0, None),)), "pairs"), ((3, ((0, "1"),)), "pairs"), ((3, (("0", "1"),)), "pairs"),
    ((3, ((0, (1,)),)), "pairs"), ((3, ((0, [1]),)), "pairs"), ((3, ((0, 1), (0, 1))), "pairs"),
    ((3, ((0, 1), (1, 2), (1, 2))), "pairs"), ((3, ((1, 2), (0, 1))), "pairs"),
    ((3, ((0, 2), (0, 1))), "pairs"), ((3, ((0, 1), None)), "pairs"), ((3, ((0, 1), 2)), "pairs"),
    ((3, ((0, 1), (1, 0))), "pairs"), ((3, ((0, 1), (0, 2), (2, 1))), "pairs"),
)

# For a map of four houses.
HOUSES = (None, True, False, -1, 4, 7, HUGE, -HUGE, "", "0", (), (0,), [], [0], {}, {0: 0})
LOTS = (
    None, True, False, 0, 3, "", "0", "01", [], [0], [0, 1], {}, {0: 1}, (4,), (-1,), (0, 4), (-1, 0),
    (HUGE,), (True,), (False,), (0, True), (False, 1), (None,), ("0",), ("0", "1"), ((0,),), ([0],),
    ({},), (0, None), (0, "1"), (0, (1,)), (0, 0), (1, 0), (0, 1, 1), (0, 2, 1), (0, 1, 2, 3, 3),
    (0, 1, 2, 3, 4), (3, 2, 1, 0),
)
COMINGS = (
    None, True, False, 0, 3, "", "0", "0 1", [], [0], [0, 1], {}, {0: 1}, (4,), (-1,), (0, 4), (1, -1),
    (HUGE,), (True,), (False,), (0, True), (1, False), (None,), ("0",), ("0", "1"), ((0,),), ([0],),
    ({},), (0, None), (0, "1"), (0, (1,)), (0, [1]), (0, 0), (0, 1, 0), (3, 1, 2, 1), (0, 1, 2, 3, 0),
    (0, 1, 2, 3, 4),
)
# For numbers from 0 to 9.
NUMBERS = (None, True, False, -1, 10, HUGE, -HUGE, "", "3", (), (3,), [], [3], {}, {3: 3})

TREES = (
    None, True, False, -1, 1, 6, 7, HUGE, "", "0", "side", "all", "all(0,1)", [], [0], {}, {0: 1}, (),
    (0,), (0, 1), ("side",), ("all",), ("side", 0), ("side", ()), ("side", (0,)), ("all", None),
    ("all", "01"), ("side", [0, 1]), ("side", {0: 0, 1: 1}), ["side", (0, 1)], {"side": (0, 1)},
    ("side", 0, 1), ("side", (0, 1), ()), ("side", (0, 1), 2), ("Side", (0, 1)), ("apart", (0, 1)),
    ("", (0, 1)), (None, (0, 1)), (True, (0, 1)), (0, (0, 1)), ([], (0, 1)), ({}, (0, 1)),
    (("side",), (0, 1)), ((0, 1), "side"), ("all", (1, 2)), ("all", (0, 2)), ("all", (0, 0)),
    ("all", (0, 1, 1)), ("all", (-1, 0)), ("all", (False, True)), ("all", (0, True)),
    ("all", (False, 1)), ("all", (0, None)), ("all", (0, "1")), ("all", (0, [1])), ("all", (0, (1,))),
    ("all", (0, {})), ("all", (0, HUGE)), ("all", (0, ())), ("all", (0, ("side", (1,)))),
    ("all", (("side", (0,)), 1)), ("all", (0, ("side", ()))), ("all", (0, ("side", (1, 3)))),
    ("all", (0, ("side", (1, 0)))), ("all", (0, ("near", (1, 2)))), ("all", (0, ["side", (1, 2)])),
    ("all", (0, ("side", [1, 2]))), ("all", tuple(range(8))), ("side", tuple(range(100))),
    ("side", (("all", (0, 1, 2, 3)), ("all", (4, 5, 6, 7)))), nested(5), nested(3000),
)
