"""Values of any kind, as the document lets them be handed in anywhere."""

from trustsorted.benches import Bench
from trustsorted.desk import Desk
from trustsorted.houses import House
from trustsorted.sets import Names
from trustsorted.works import Work


def nested(deep, wrap):
    value = 1
    for _ in range(deep):
        value = wrap(value)
    return value


def any_values():
    """Integers, bools, None, strings, tuples, lists, dicts and objects, also deep in one another."""
    house = House("signs a\nrule r\n  ranks a")
    names = Names.of(("a", "b"), ("a* b",))
    work, bench, desk = Work(house, "file a by r"), Bench(house), Desk(house.text)
    bench.add("file a by r")
    return [
        0, 1, -1, 7, 10 ** 30, True, False, None, "", "a", "r", "rule", "before", "nothing",
        (), (1,), (True,), ("a",), ("r", ("a", "a")), (("r", ("a", "a")),), [], ["a"], [1, 2], {}, {"a": 1}, {1: []},
        house, (house,), [house], {"a": house}, ("fits", house), ("carries", house),
        names, (names,), [names], {"a": names}, ("right",), ("deceived", house, (("a",),)), ("keep", "r"),
        work, (work,), [work], bench, (bench,), {"a": bench}, desk, [desk], ("weak", 1, house, (("a",),)),
        nested(30, lambda value: (value,)), nested(30, lambda value: [value]), nested(30, lambda value: {"a": value}),
    ]


def strange_values(*kinds):
    """All of these values that are not of one of the kinds."""
    return [value for value in any_values() if not isinstance(value, kinds)]
