"""What the tests share: objects of all kinds, made systems, and slow ways to the same answers."""

import random
from fractions import Fraction
from itertools import permutations, product
from math import gcd

from hintslie.errors import HintError
from hintslie.machines import Machine, free_machine
from hintslie.systems import System
from hintslie.views import answered, asks, first_view

MODES = ("none", "true", "free")
GREAT = 10 ** 29


def rent():
    return System(((0, 2), (0, 0)), {"day": (1, 0), "over": (0, None)})


def renting_by_hand(price):
    """To rent (post 0) or to have bought (post 1)."""
    return System(((0, price), (0, 0)), {"day": (1, 0), "over": (0, None)})


def pages():
    """One held page of three."""
    moves = tuple(tuple(0 if a == b else 1 for b in range(3)) for a in range(3))
    return System(moves, {"a": (0, None, None), "b": (None, 0, None), "c": (None, None, 0)})


def detour():
    """A system in which the straight step from 0 to 2 is dearer than the way by 1."""
    return System(((0, 1, 9), (5, 0, 1), (0, 9, 0)), {"in": (3, 0, None), "out": (None, None, 4), "up": (2, 2, 2)})


def single():
    return System(((0,),), {"x": (0,), "y": (3,)})


def stall():
    """A system in which hints help in many ways: its border has 11 pieces."""
    return System(((0, 3), (4, 0)), {"a": (1, 3), "b": (1, 5), "c": (3, 0)})


def slope():
    """A system in which any charge above 0 makes the least share less."""
    return System(((0, 3), (4, 0)), {"a": (3, 5), "b": (None, 5)})


def line():
    """A machine of three states for rent and its kind: over is never let twice."""
    return Machine(({"day": 0, "over": 1}, {"day": 2}, {"day": 2, "over": 0}))


def nested(deep):
    """A tuple that is nested so deep."""
    thing = ()
    for _ in range(deep):
        thing = (thing,)
    return thing


def objects():
    """Objects of the built-in kinds and of the package, none of them a right argument but by its kind."""
    deep = []
    for _ in range(29):
        deep = [deep]
    return [
        None, True, False, 0, 1, -1, 2, GREAT, -GREAT, "", "a", "day", "Day", b"day", bytearray(b"day"),
        [], [0], [[]], {}, {"day": 1}, {0: 0}, (), (0,), (True,), ((),), ("day",), ("day", None), (0, 0), (1, 1),
        range(3), slice(1), len, int, tuple, Ellipsis, NotImplemented, memoryview(b"day"), iter([0]), object,
        lambda: 0, (x for x in []), ValueError("day"), HintError(), HintError, rent(), free_machine(rent()),
        nested(29), deep, {"day": {"day": {"day": []}}}, ([], {}), ({}, []), (rent(), rent()), ([], [], [], []),
        ({}, {}, {}, {}), (rent(), rent(), rent(), rent()), zip(), enumerate([]), property(),
    ]


def less(things, kinds):
    """The things that are of none of these kinds."""
    return [thing for thing in things if not isinstance(thing, kinds)]


def number_spoils():
    """What is put in the place of an integer from 0 on: no such integer, whatever was there."""
    return [True, False, None, "0", b"0", [0], (0,), {}, -1, -GREAT, rent()]


def replaced(row, index, thing):
    """The tuple with this thing at the index."""
    return tuple(row[:index]) + (thing,) + tuple(row[index + 1:])


def made_system(chance, posts, many, most=9, without=0.3):
    moves = tuple(tuple(0 if a == b else chance.randint(0, most) for b in range(posts)) for a in range(posts))
    requests = {}
    while len(requests) < many:
        prices = tuple(None if chance.random() < without else chance.randint(0, most) for _ in range(posts))
        if prices != (None,) * posts:
            requests["abcde"[len(requests)]] = prices
    return System(moves, requests)


def made_machine(chance, system):
    states = chance.randint(1, 4)
    return Machine(tuple(
        {name: chance.randrange(states) for name in chance.sample(system.names, chance.randint(1, len(system.names)))}
        for _ in range(states)
    ))


def made(seed, many, most_posts=3, most_requests=3, most=4):
    """Made triples of a system, a machine that suits it, and a mode."""
    chance = random.Random(seed)
    found = []
    for _ in range(many):
        system = made_system(chance, chance.randint(1, most_posts), chance.randint(1, most_requests), most)
        machine = made_machine(chance, system) if chance.random() < 0.7 else free_machine(system)
        found.append((system, machine, chance.choice(MODES)))
    return found


def slow_way(moves, a, b):
    """The least sum of steps from a to b, over all orders of posts between."""
    if a == b:
        return 0
    others = [post for post in range(len(moves)) if post not in (a, b)]
    sums = []
    for many in range(len(others) + 1):
        for between in permutations(others, many):
            path = (a,) + between + (b,)
            sums.append(sum(moves[path[k]][path[k + 1]] for k in range(len(path) - 1)))
    return min(sums)


def service_price(system, row, posts):
    """The price of a service of the row at these posts, None if it is none."""
    place, total = 0, 0
    for name, post in zip(row, posts):
        price = system.requests[name][post]
        if price is None:
            return None
        total += slow_way(system.moves, place, post) + price
        place = post
    return total


def slow_prices(system, row):
    """The price of each service of the row, by its posts."""
    prices = {}
    for posts in product(range(system.posts), repeat=len(row)):
        price = service_price(system, row, posts)
        if price is not None:
            prices[posts] = price
    return prices


def served_posts(system, name):
    return [post for post, price in enumerate(system.requests[name]) if price is not None]


def outcomes(system, machine, mode, view):
    """For each ask at the view what comes of each answer: (view, price, rise, lie)."""
    return {
        ask: [answered(system, machine, mode, view, ask, post) for post in served_posts(system, ask[0])]
        for ask in asks(system, machine, mode, view)
    }


def walked(system, machine, mode, most=5000):
    """All views that come, each with its outcomes, by a walk through asks and answers."""
    found = {}
    todo = [first_view(system)]
    while todo and len(found) <= most:
        view = todo.pop()
        if view not in found:
            found[view] = outcomes(system, machine, mode, view)
            todo.extend(result[0] for results in found[view].values() for result in results)
    return found


def weight(share, charge, result):
    """The weight of an answer, from what comes of it."""
    (p, q), (c, e) = share, charge
    _, price, rise, lie = result
    return q * e * price - p * e * rise - c * q * lie


def slow_numbers(system, machine, mode, share, charge):
    """The least numbers by going round after round; None as soon as one is past all that can be kept."""
    graph = walked(system, machine, mode)
    most = max(
        abs(weight(share, charge, result))
        for outcome in graph.values() for results in outcome.values() for result in results
    )
    numbers = {view: 0 for view in graph}
    while True:
        after = {
            view: max([0] + [
                min(weight(share, charge, result) + numbers[result[0]] for result in results)
                for results in graph[view].values()
            ])
            for view in graph
        }
        if after == numbers:
            return numbers
        numbers = after
        if numbers[first_view(system)] > most * len(graph):
            return None


def fraction(told):
    """A pair (top, bottom) as a number."""
    return Fraction(*told)


def pair(number):
    """A number as a pair (top, bottom)."""
    return Fraction(number).as_integer_ratio()


def is_plain_fraction(thing):
    """Whether a thing is a fraction as 0.2 tells, made of plain integers."""
    return (
        type(thing) is tuple and len(thing) == 2 and type(thing[0]) is int and type(thing[1]) is int
        and thing[0] >= 0 and thing[1] >= 1 and gcd(*thing) == 1
    )


def is_plain_integer(thing):
    return type(thing) is int


def shows_kept(system, machine, mode, share, charge, thing):
    """Whether the clauses of a table hold for a dict with views alone as keys."""
    if not all(is_plain_integer(number) and number >= 0 for number in thing.values()):
        return False
    if first_view(system) not in thing:
        return False
    return all(
        any(
            result[0] in thing and weight(share, charge, result) + thing[result[0]] <= thing[view]
            for result in results
        )
        for view in thing
        for results in outcomes(system, machine, mode, view).values()
    )


def shows_not_kept(system, machine, mode, share, charge, thing):
    """Whether the clauses of a liar's table hold for a dict from views to pairs of an integer and an ask there."""
    if first_view(system) not in thing:
        return False
    most = len(thing) + 1
    return all(
        result[0] in thing and number <= most * weight(share, charge, result) - 1 + thing[result[0]][0]
        for view, (number, ask) in thing.items()
        for result in outcomes(system, machine, mode, view)[ask]
    )


def shows_least(system, machine, mode, share, charge, thing):
    """Whether the clauses of a press hold for a dict from views to tuples of an integer, a level and an ask there."""
    if first_view(system) not in thing:
        return False
    for view, (number, level, ask) in thing.items():
        for result in outcomes(system, machine, mode, view)[ask]:
            if result[0] not in thing:
                return False
            behind = thing[result[0]]
            most = weight(share, charge, result) + behind[0]
            if number > most or number == most and result[2] == 0 and behind[1] >= level:
                return False
    return True


def no_views(first):
    """Things that can be keys and are no views, made of the first view."""
    return [
        None, 0, "", "day", (), (0,), first[:3], first + (None,), replaced(first, 2, (0, 9)), True,
        replaced(first, 0, 4), replaced(first, 1, 9), replaced(first, 3, "night"), first[::-1], len,
    ]


def flagged(found):
    """Dicts that are equal to this one, with a flag inside one of the views that are its keys."""
    spoiled = []
    for view in found:
        keys = [replaced(view, index, bool(view[index])) for index in (0, 1) if view[index] in (0, 1)]
        for place, offset in enumerate(view[2]):
            if offset in (0, 1):
                keys.append(replaced(view, 2, replaced(view[2], place, bool(offset))))
        for key in keys:
            rest = {other: found[other] for other in found if other != view}
            spoiled.append({**rest, key: found[view]})
    return spoiled
