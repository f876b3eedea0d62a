"""What the tests share: writing documents and calls, asking, and documents made by a plain rule."""

from widthlayout.desk import answers

BLANK = [1]
SOFT = [2]
LINE = [3]
HARD = [4]
GAP = [5]
MARKS = {"blank": BLANK, "soft": SOFT, "line": LINE, "hard": HARD, "gap": GAP}

HUGE = 10 ** 18
FAR = (-HUGE, -HUGE + 1, -1, HUGE - 1, HUGE)


def text(letters):
    codes = list(letters.encode("latin-1"))
    return [0, len(codes)] + codes


def row(*documents):
    numbers = [6, len(documents)]
    for document in documents:
        numbers += document
    return numbers


def indented(number, document):
    return [7, number] + document


def aligned(document):
    return [8] + document


def group(document):
    return [9] + document


def named(k):
    return [10, k]


def long_document(last):
    """A line of 1000 bytes, 18 that begin behind 1000 blanks, and so many bytes at the end of the last.

    It's laid to so many and 19036 bytes.
    """
    return row([0, 1000] + [97] * 1000, aligned(row(*[HARD, text("b")] * 18)), [0, last] + [99] * last)


def put(document):
    return [0, len(document)] + document


def drop():
    return [1]


def told(k):
    return [2, k]


def size(k):
    return [3, k]


def flat(k):
    return [4, k]


def lay(w, k):
    return [5, w, k]


def groups(w, k):
    return [6, w, k]


def lines(w, k):
    return [7, w, k]


def least(k):
    return [8, k]


def begin(w, k):
    return [9, w, k]


def steps(n):
    return [10, n]


def look():
    return [11]


def written():
    return [12]


def back(n):
    return [13, n]


def ask(*calls):
    """The answer to each of the calls, made one behind another on a new object."""
    handed = [number for call in calls for number in call]
    if len(calls) > 40 or len(handed) > 17000 or any(call[0] == 0 and call[1] > 3000 for call in calls):
        raise AssertionError("more than may be handed in")
    given = answers(handed)
    if not all(type(number) is int for number in given):
        raise AssertionError("something other than a whole number was answered")
    split = []
    place = 0
    while place < len(given):
        behind = place + 1 + given[place]
        split.append(given[place + 1:behind])
        place = behind
    if place != len(given) or len(split) != len(calls):
        raise AssertionError(f"{len(calls)} calls, but the answers are {given}")
    return split


def letters_of(codes):
    return bytes(codes).decode("latin-1")


def laid(document, w):
    """What the document is laid to within w, with the counts ahead of it held against it."""
    answer = ask(put(document), lay(w, 0))[1]
    letters = letters_of(answer[3:])
    pieces = letters.split("\n") if letters else []
    if answer[:3] != [len(pieces), max(map(len, pieces), default=0), len(letters)]:
        raise AssertionError(f"{answer[:3]} was answered ahead of {letters!r}")
    return letters


def on_one_line(document):
    answer = ask(put(document), flat(0))[1]
    if answer[0] != len(answer) - 1:
        raise AssertionError(f"{answer[0]} was answered ahead of {answer[1:]}")
    return letters_of(answer[1:])


def flat_groups(document, w):
    answer = ask(put(document), groups(w, 0))[1]
    if answer[0] != len(answer) - 1:
        raise AssertionError(f"{answer[0]} was answered ahead of {answer[1:]}")
    return answer[1:]


def found_lines(document, w):
    """Of each line the length, the indentation, and how many flat breaks it has."""
    answer = ask(put(document), lines(w, 0))[1]
    if 3 * answer[0] != len(answer) - 1:
        raise AssertionError(f"{answer[0]} was answered ahead of {answer[1:]}")
    return [tuple(answer[place:place + 3]) for place in range(1, len(answer), 3)]


class Rule:
    """A plain rule that picks one number after another: the same ones for the same beginning."""

    def __init__(self, beginning):
        self.state = beginning

    def pick(self, count):
        self.state = (self.state * 1103515245 + 12345) % 2 ** 31
        return (self.state >> 12) % count


def made_document(rule, depth):
    """The row of a document of at most this depth, as the rule picks it."""
    choice = rule.pick(16)
    if depth == 1 or choice < 8:
        if choice % 2 == 0:
            return text("abcdefgh"[:1 + rule.pick(5)])
        # Hards and gaps come seldom: they force every group around them.
        return [BLANK, SOFT, LINE, LINE, SOFT, BLANK, LINE, SOFT, LINE, HARD, GAP][rule.pick(11)]
    if choice < 10:
        return indented(rule.pick(4), made_document(rule, depth - 1))
    if choice == 10:
        return aligned(made_document(rule, depth - 1))
    if choice < 14:
        return group(made_document(rule, depth - 1))
    return made_row(rule, depth)


def made_row(rule, depth):
    return row(*[made_document(rule, depth - 1) for count in range(rule.pick(7))])


def made_documents(count):
    """So many documents' rows: each a row of several, some of them within a group."""
    found = []
    for beginning in range(count):
        rule = Rule(beginning * 7919 + 1)
        document = row(*[made_document(rule, 6) for part in range(3 + rule.pick(6))])
        found.append(group(document) if rule.pick(2) else document)
    return found


def tree(numbers, place=0):
    """The document that the row tells from this place on, and the place behind it."""
    kind = numbers[place]
    if kind == 0:
        behind = place + 2 + numbers[place + 1]
        return (kind, numbers[place + 2:behind]), behind
    if kind <= 5:
        return (kind,), place + 1
    if kind == 6:
        inner = []
        behind = place + 2
        for count in range(numbers[place + 1]):
            found, behind = tree(numbers, behind)
            inner.append(found)
        return (kind, inner), behind
    number = numbers[place + 1] if kind == 7 else 0
    found, behind = tree(numbers, place + (2 if kind == 7 else 1))
    return (kind, [found], number), behind


def inner_of(document):
    return document[1] if document[0] >= 6 else []


def parts_of(document):
    return [document] + [part for inner in inner_of(document) for part in parts_of(inner)]


def depth_of(document):
    return 1 + max([depth_of(inner) for inner in inner_of(document)], default=0)


def is_forced(document):
    return any(part[0] in (4, 5) for part in parts_of(document))


def forced_groups(document):
    """For each group, in the order in which steps come to them, whether it's forced."""
    return [is_forced(part) for part in parts_of(document) if part[0] == 9]


class Words:
    """A second laying, which follows the document's words one by one.

    It's slow and plain: documents are nested tuples, and a group's thought goes on with a copy of all that there is.
    """

    def __init__(self, document, width, is_flat):
        self.width = width
        self.commands = [(document, 0, is_flat)]
        self.written = []
        self.held = ("nothing",)
        self.flags = []
        # The flat breaks and, with its line's number, every text, in the order in which steps took them.
        self.events = []
        self.taken = 0
        self.in_thought = False

    def column(self):
        behind = 0
        for place, byte in enumerate(self.written):
            if byte == 10:
                behind = place + 1
        return len(self.written) - behind

    def blank_comes(self):
        if self.held == ("nothing",) and self.column() != 0:
            self.held = ("blank",)

    def break_comes(self, i):
        if self.column() != 0:
            self.held = ("empty line", i) if self.held[0] == "empty line" else ("break", i)

    def step(self):
        document, i, is_flat = self.commands.pop(0)
        kind = document[0]
        self.taken += 1
        if kind in (2, 3) and is_flat:
            self.events.append("flat break")
        if kind == 0:
            before = {"nothing": [], "blank": [32], "break": [10], "empty line": [10, 10]}[self.held[0]]
            self.written += before + [32] * sum(self.held[1:]) + document[1]
            self.held = ("nothing",)
            self.events.append(self.written.count(10))
        elif kind == 1:
            self.blank_comes()
        elif kind == 2:
            if not is_flat:
                self.break_comes(i)
        elif kind == 3:
            if is_flat:
                self.blank_comes()
            else:
                self.break_comes(i)
        elif kind == 4:
            self.break_comes(i)
        elif kind == 5:
            if self.column() != 0:
                self.held = ("empty line", i)
        elif kind == 6:
            self.commands = [(inner, i, is_flat) for inner in document[1]] + self.commands
        elif kind == 7:
            self.commands.insert(0, (document[1][0], i + document[2], is_flat))
        elif kind == 8:
            if self.held[0] in ("break", "empty line"):
                i = self.held[1]
            else:
                i = self.column() + (1 if self.held[0] == "blank" else 0)
            self.commands.insert(0, (document[1][0], i, is_flat))
        else:
            if not self.in_thought:
                is_flat = is_flat or (not is_forced(document) and self.fits(document, i))
                self.flags.append(1 if is_flat else 0)
            self.commands.insert(0, (document[1][0], i, is_flat))

    def fits(self, document, i):
        thought = Words(None, self.width, False)
        thought.commands = [(document[1][0], i, True)] + self.commands
        thought.written = list(self.written)
        thought.held = self.held
        thought.in_thought = True
        while thought.commands:
            following, indent, is_flat = thought.commands[0]
            if following[0] in (4, 5) or (following[0] in (2, 3) and not is_flat):
                return True
            thought.step()
            if following[0] == 0 and thought.column() > self.width:
                return False
        return True

    def finish(self):
        while self.commands:
            self.step()
        return self

    def advance(self, count):
        for step in range(count):
            self.step()
        return self

    def look(self):
        kinds = ["nothing", "blank", "break", "empty line"]
        numbers = [self.taken, self.column(), kinds.index(self.held[0]), sum(self.held[1:]), len(self.commands)]
        if self.commands:
            document, i, is_flat = self.commands[0]
            numbers += [document[0], i, 1 if is_flat else 0]
        return numbers

    def lines(self):
        """Of each line the length, the indentation, and how many flat breaks it has."""
        found = []
        for number, piece in enumerate(bytes(self.written).split(b"\n") if self.written else []):
            places = [place for place, event in enumerate(self.events) if event == number]
            between = self.events[places[0]:places[-1]] if places else []
            found.append((len(piece), len(piece) - len(piece.lstrip(b" ")), between.count("flat break")))
        return found
