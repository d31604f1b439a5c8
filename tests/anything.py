"""Things of every kind that may be handed in as anything, and expressions to test with."""


def nested(make, deep):
    """A thing put into itself by make, so deep."""
    thing = 0
    for k in range(deep):
        thing = make(thing)
    return thing


def wrong_things():
    """Things that are no shares, expressions, pairs that show a jump, doubters, houses or paths that lead anywhere."""
    return [
        None, True, False, 0, 1, -1, 7, 10 ** 60, "", "fig", "share 0", "1:2", "\n", "\u00e9\u4e2d",
        (), [], {}, ((),), [[]], (None,), (None, None), (None, None, None), ("fig",), ("", ""), ("a", "b", "c"),
        [1, 2], [1, 1, 1], {0: 1, 1: 2}, {"fig": 1}, (True, False), (True, False, False), (1, True), (False, 1),
        (1, None), (1, "2"), ("1", "2"), (1, (2,)), (1, [2]), (1, {}), ([1], [2]), ((1, 2), (3, 4)), ({}, {}, {}),
        (1,), (1, 1, 1, 1), (-1, 2), (2, -1), (-1, -2), (1, 2, -3), (0, 0), (0, 0, 0), (2, 4), (3, 6, 9), (0, 5),
        ([], 1), ({}, 1), (None, 1), (True, 1), (("fig",), 1), (["fig"], 1), ({"fig": 1}, 1), (b"fig", 1),
        nested(lambda x: (x,), 30), nested(lambda x: [x], 30), nested(lambda x: {"k": x}, 30),
        nested(lambda x: (x, x), 10), nested(lambda x: ("sum", x, x), 12), nested(lambda x: ("times", 1, x), 29),
        tuple(range(20000)), list(range(20000)), ("fig",) * 20000, "z" * 20000, {k: k for k in range(9000)},
    ]


def chain(deep, inner=("fig", 1)):
    """A chain of times words over inner, deep expressions in all where inner is one."""
    thing = inner
    for k in range(deep - 1):
        thing = ("times", 1, thing)
    return thing


def broad(count):
    """An expression of just count expressions, at most 8 deep for all counts from 1 to 63."""
    if count == 1:
        return ("share", 0)
    if count == 2:
        return ("times", 2, ("share", 1))
    left = (count - 1) // 2
    return ("sum", broad(left), broad(count - 1 - left))


def spots(thing, path=()):
    """(path, what stands there) of a thing and of all in it, through tuples."""
    found = [(path, thing)]
    if isinstance(thing, tuple):
        for at, item in enumerate(thing):
            found += spots(item, path + (at,))
    return found


def with_spot(thing, path, item):
    """The thing with the item in the place of what stands at the path."""
    if not path:
        return item
    at = path[0]
    return thing[:at] + (with_spot(thing[at], path[1:], item),) + thing[at + 1:]


def wrong_in_place_of(item):
    """Things of other kinds than the item: whatever takes the item takes none of these in its place."""
    wrong = [None, True, False, [], {}, [1], {"a": 1}, ("no",), (None,), ([],), ({},), ((((),),),), (True, False)]
    wrong += [nested(lambda x: (x,), 20), nested(lambda x: [x], 20), nested(lambda x: {"k": x}, 20), 10 ** 60]
    if isinstance(item, tuple):
        return wrong + [0, 1, -1, "", "a", "put", list(item), {0: item}, dict(enumerate(item)), (item,), [item]]
    if isinstance(item, str):
        return wrong + [0, 1, (), (item,), [item], {item: item}, "", item + " ", item.upper(), item + "\n"]
    return wrong + ["", "a", str(item), (), (item,), [item]]
