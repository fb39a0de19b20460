"""The rules of [0.8] to [0.10], told once more in another way, to compare the package with; and books and loads."""

import random

from twoandabell.book.books import Book, Level

REST_WORDS = ("wake", "way", "lost")


class Task:
    """A task: its mode, its level, and what is left."""

    def __init__(self, level, left):
        self.mode, self.level, self.left = "ready", level, left

    def picture(self):
        return ("ended",) if self.mode == "ended" else (self.mode, self.level, self.left)


class Scheduler:
    """One list of tasks for each level; done by the letter of the document."""

    def __init__(self, book):
        self.book = book
        self.tasks = []
        self.rows = {level: [] for level in range(len(book))}

    def running(self):
        found = [number for number, task in enumerate(self.tasks) if task.mode == "runs"]
        assert len(found) <= 1
        return found[0] if found else None

    def asleep(self):
        return [number for number, task in enumerate(self.tasks) if task.mode == "asleep"]

    def put(self, number, level, place, rest):
        task = self.tasks[number]
        new = self.book["ticks", level]
        if rest == "kept" and task.left and new is not None:
            new = task.left if task.left < new else new
        task.mode, task.level, task.left = "ready", level, new
        self.rows[level] = [number] + self.rows[level] if place == "front" else self.rows[level] + [number]

    def enter_by(self, number, word):
        entry = self.book[word, self.tasks[number].level]
        self.put(number, entry[0], entry[1], "new" if word == "used" else entry[2])

    def come(self, rank):
        self.tasks.append(Task(self.book["come", rank], None))
        self.put(len(self.tasks) - 1, self.book["come", rank], "back", "new")

    def tick_ahead(self, coming):
        """Let a task come or wake ahead of a tick; return whether this is possible."""
        kind, number = coming
        if kind == "come" and number < len(self.book.ranks):
            self.come(number)
        elif kind == "wake" and number in self.asleep():
            self.enter_by(number, "wake")
        else:
            return False
        return True

    def tick(self, comings, word):
        """Do a tick; return what the chart tells, or `"stopped"`."""
        for coming in comings:
            if not self.tick_ahead(coming):
                return "stopped"
        runner = self.running()
        if runner is not None:
            takes = self.book["takes", self.tasks[runner].level]
            better = [level for level in self.rows if self.rows[level] and level < takes]
            if (takes > 0) if word == "bell" else better:
                self.enter_by(runner, "lost")
        if word == "bell":
            return "bell"
        runner = self.running()
        if runner is None:
            line = [number for level in sorted(self.rows) for number in self.rows[level]]
            if not line:
                return None
            runner = line[0]
            self.rows[self.tasks[runner].level].remove(runner)
            self.tasks[runner].mode = "runs"
        self.work(runner, word)
        return runner

    def work(self, number, word):
        task = self.tasks[number]
        if task.left is not None:
            task.left -= 1
        if word == "on" and task.left == 0:
            self.enter_by(number, "used")
        elif word == "way":
            self.enter_by(number, "way")
        elif word in ("sleep", "end"):
            task.mode = {"sleep": "asleep", "end": "ended"}[word]


def told(book, load):
    """The pair of the chart and the pictures of a load, as far as it goes, and the index at which it stops."""
    scheduler, charted, shown = Scheduler(book), [], []
    for index, (comings, word) in enumerate(load):
        entry = scheduler.tick(comings, word)
        if entry == "stopped":
            return tuple(charted), shown, index
        charted.append(entry)
        shown.append(tuple(task.picture() for task in scheduler.tasks))
    return tuple(charted), shown, None


def some_books(many, seed):
    """So many books, the same ones for the same seed."""
    source = random.Random(seed)
    return [some_book(source) for _ in range(many)]


def some_book(source, ranks=None):
    levels = source.randint(1, 3)
    made = []
    for index in range(levels):
        made.append(Level(
            source.choice((1, 2, 3, None)),
            used=(source.randrange(levels), source.choice(("front", "back"))),
            takes=source.randint(0, index),
            **{word: (source.randrange(index if word == "lost" else 0, levels), source.choice(("front", "back")),
                      source.choice(("kept", "new"))) for word in REST_WORDS}))
    many = source.randint(1, 3) if ranks is None else ranks
    return Book(*made, ranks=tuple(source.randrange(levels) for _ in range(many)))


def some_load(source, book, ticks, tasks):
    """A load that is possible for the book, of so many ticks and at most so many tasks."""
    scheduler, load = Scheduler(book), []
    for _ in range(ticks):
        comings = []
        sleepers = scheduler.asleep()
        source.shuffle(sleepers)
        for _ in range(source.choice((0, 0, 0, 1, 1, 2, 3))):
            if sleepers and source.random() < 0.7:
                comings.append(("wake", sleepers.pop()))
            elif len(scheduler.tasks) + len([one for one in comings if one[0] == "come"]) < tasks:
                comings.append(("come", source.randrange(len(book.ranks))))
        word = source.choice(("on", "on", "on", "on", "sleep", "sleep", "way", "end", "bell", "bell"))
        load.append((tuple(comings), word))
        assert scheduler.tick(*load[-1]) != "stopped"
    return tuple(load)


def some_pair(source, ranks=None):
    """Two books with equal numbers of ranks, that differ in some entries, or in everything."""
    book = some_book(source, ranks)
    if source.random() < 0.2:
        return book, some_book(source, len(book.ranks))
    other = book
    for _ in range(source.choice((1, 1, 1, 2, 3))):
        key = source.choice(book.entries())
        other = other.with_entry(*key, source.choice(book.values_for(*key)))
    return book, other


def some_full_book(source, ranks=(0, 1, 2)):
    """A book of three levels with slices of three, which has as many stands as any."""
    made = []
    for index in range(3):
        made.append(Level(
            3, used=(source.randrange(3), source.choice(("front", "back"))), takes=source.randint(0, index),
            **{word: (source.randrange(index if word == "lost" else 0, 3), source.choice(("front", "back")),
                      source.choice(("kept", "new"))) for word in REST_WORDS}))
    return Book(*made, ranks=ranks)


def lost_pair(source):
    """Two books that differ in what becomes of tasks that are taken away, which is not seldom."""
    levels = [level.replaced("takes", index) for index, level in enumerate(some_full_book(source))]
    book = Book(*levels, ranks=(0, 1, 2))
    key = ("lost", source.choice((1, 2)))
    return book, book.with_entry(*key, source.choice(book.values_for(*key)))


def parted_loads(many, seed, ticks=25, tasks=8, pair=some_pair):
    """So many triples of two books and a load at whose last tick they part."""
    source, found = random.Random(seed), []
    while len(found) < many:
        book, other = pair(source)
        load = some_load(source, book, source.randint(2, ticks), tasks)
        one, two = told(book, load)[0], told(other, load)[0]
        apart = [index for index in range(min(len(one), len(two))) if one[index] != two[index]]
        if apart:
            found.append((book, other, load[:apart[0] + 1]))
    return found


def scheduler_at(book, stand):
    """A scheduler with two tasks that have come to a stand; one that is away stands for itself alone."""
    scheduler = Scheduler(book)
    for number, part in enumerate(stand[:2]):
        task = Task(None, None)
        task.mode = part[0]
        if len(part) == 3:
            task.level, task.left = part[1:]
        scheduler.tasks.append(task)
        if task.mode == "ready":
            scheduler.rows[task.level].append(number)
    if stand[2] == 1:
        level = stand[0][1]
        scheduler.rows[level] = [1, 0]
    return scheduler


def stand_in(scheduler, one=0, two=1):
    """The stand of two tasks of a scheduler, of which tasks that have not come yet are away."""
    parts, ahead = [], None
    for number in (one, two):
        task = scheduler.tasks[number] if number < len(scheduler.tasks) else None
        away = task is None or task.mode == "away"
        parts.append(("away",) if away else task.picture())
    for row in scheduler.rows.values():
        if one in row and two in row:
            ahead = 0 if row.index(one) < row.index(two) else 1
    return (*parts, ahead)


def moved(book, stand, move):
    """The stand behind a move, by a scheduler; `None` if nobody would work in a tick."""
    scheduler = scheduler_at(book, stand)
    if move[0] == "come":
        task = scheduler.tasks[move[1]]
        task.level = book["come", move[2]]
        scheduler.put(move[1], task.level, "back", "new")
    elif move[0] == "wake":
        scheduler.enter_by(move[1], "wake")
    elif scheduler.tick((), move[-1]) is None:
        return None
    return stand_in(scheduler)


def parts_by_form(book):
    """What a stand can tell of a task by the form alone."""
    parts = [("away",), ("ended",)]
    for level in range(len(book)):
        ticks = book["ticks", level]
        lefts = [None] if ticks is None else list(range(ticks + 1))
        parts += [(mode, level, left) for mode in ("asleep", "ready", "runs") for left in lefts
                  if mode == "asleep" or left != 0]
    return sorted(parts)


def stands_by_form(book):
    """The ascending list of all stands of a book by the form alone."""
    found = []
    for one in parts_by_form(book):
        for two in parts_by_form(book):
            if one[0] == two[0] == "ready" and one[1] == two[1]:
                found += [(one, two, 0), (one, two, 1)]
            elif not one[0] == two[0] == "runs":
                found.append((one, two, None))
    return found
