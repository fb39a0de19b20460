"""Ranks beside one another: whether one is ahead of another one, and how far the other one leads."""

from twoandabell.base.words import is_between, is_number, is_row
from twoandabell.book.alone import READY
from twoandabell.book.checks import check_book
from twoandabell.errors import InvalidNumber
from twoandabell.pair.courses import Course, load_with, many_timed
from twoandabell.pair.forms import stand_numbers
from twoandabell.pair.graphs import FIRST_STAND, Graph
from twoandabell.run.loads import is_load
from twoandabell.waits.duos import raced, works_beside_ready
from twoandabell.waits.races import BELL, ON, Races, after_race_move, race_stands


def is_ahead(book, rank, other):
    """Whether at no tick a task of the second rank works while another one, of the first rank, is ready."""
    return not Course(_graph_of(book, rank, other), whole=False).passed


def ahead_paper(book, rank, other):
    """A paper that tells whether a rank is ahead of another one, with a load as short as any if it is not."""
    graph = _graph_of(book, rank, other)
    course = Course(graph, whole=False)
    if course.passed:
        return ("works", load_with((*course.trail(course.passed[0]), ON)))
    return ("ahead", tuple([graph.stand(number) for number in sorted(list(course.before))]))


def is_ahead_paper(book, rank, other, value):
    """Whether the value is a paper that tells whether a rank is ahead of another one."""
    graph = _graph_of(book, rank, other)
    if not is_row(value, 2):
        return False
    if value[0] == "ahead":
        return isinstance(value[1], tuple) and _is_ahead_table(graph, stand_numbers(book, value[1]))
    return value[0] == "works" and is_load(value[1]) and works_beside_ready(book, rank, other, value[1])


def lead(book, rank, other):
    """The greatest lead of a race of a task of the second rank and one of the first, or `None` if it has no end."""
    graph = _graph_of(book, rank, other)
    races = Races(graph, race_stands(list(Course(graph).before)))
    return None if races.is_endless else max(list(races.leads.values()))


def lead_paper(book, rank, other):
    """A paper that tells the greatest lead, or that it has no end."""
    graph = _graph_of(book, rank, other)
    course = Course(graph)
    stands = race_stands(list(course.before))
    races = Races(graph, stands)
    if races.is_endless:
        start, ring = races.endless_race()
        way = course.trail(start)
        return ("endless", load_with((*way, *ring)), many_timed(way), ring)
    start = max(stands, key=lambda stand: races.leads[stand])
    way = course.trail(start)
    # A race has at least one tick; in a bell nobody gains.
    load = load_with((*way, *(races.best_race(start) or (BELL,))))
    table = [(graph.stand(stand), races.leads[stand]) for stand in sorted(stands)]
    return ("most", load, many_timed(way), tuple(table))


def is_lead_paper(book, rank, other, value):
    """Whether the value is a paper that tells the greatest lead, or that it has no end."""
    graph = _graph_of(book, rank, other)
    if not is_row(value, 4) or value[0] not in ("most", "endless"):
        return False
    word, load, tick, rest = value
    if not is_load(load) or not is_between(tick, 0, len(load) - 1):
        return False
    found = raced(book, rank, other, load, tick)
    if found is None:
        return False
    gained, stand = found
    if word == "endless":
        return _is_gaining_ring(graph, stand, rest, rank == other)
    # Of two tasks of one rank the one that works more often can be taken for the second one.
    return _is_lead_table(book, graph, abs(gained) if rank == other else gained, rest)


def _graph_of(book, rank, other):
    """The graph of a task 0 of a rank and a task 1 of another one; raise an error unless the values are such."""
    check_book(book)
    for value in (rank, other):
        if not is_between(value, 0, len(book.ranks) - 1):
            raise InvalidNumber(value)
    return Graph(book, [rank], [other])


def _is_ahead_table(graph, numbers):
    """Whether some stands have the first one and all behind their moves, and at none task 1 goes ahead of task 0."""
    if numbers is None:
        return False
    known = set(numbers)
    if FIRST_STAND not in known:
        return False
    for number in numbers:
        worker, comings, timed = graph.row(number)
        if worker == 1 and number >> 7 >= READY:
            return False
        for near in (*comings, *timed):
            if near not in known:
                return False
    return True


def _is_gaining_ring(graph, stand, ring, is_one_rank):
    """Whether the value is a tuple of moves of a race that lead from a stand back to it, by which task 1 gains."""
    if not isinstance(ring, tuple) or not all([move in (ON, BELL) for move in ring]):
        return False
    at, gained = stand, 0
    for move in ring:
        at, gain = after_race_move(graph, at, move)
        gained += gain
    return at == stand and (gained > 0 or (is_one_rank and gained < 0))


def _is_lead_table(book, graph, most, value):
    """Whether the value is a table of stands and of numbers that tells that no race has a greater lead."""
    if not isinstance(value, tuple) or not all([is_row(pair, 2) and is_number(pair[1]) for pair in value]):
        return False
    numbers = stand_numbers(book, tuple([stand for stand, _ in value]))
    if numbers is None or len(race_stands(numbers)) < len(numbers):
        return False
    leads = {number: told for number, (_, told) in zip(numbers, value)}
    for number in numbers:
        for move in (ON, BELL):
            near, gain = after_race_move(graph, number, move)
            if near not in leads or leads[near] + gain > leads[number]:
                return False
    reached = race_stands(list(Course(graph).before))
    return all([number in leads and leads[number] <= most for number in reached])
