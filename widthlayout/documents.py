"""Documents, each kept as the list of its parts: every part ahead of those that it is made of."""

from widthlayout.kinds import ALIGNED, GAP, GROUP, HARD, INDENTED, NAMED, ROW, TEXT

MOST_PARTS = 600
MOST_DEPTH = 40
MOST_BYTES = 4000


# A document by itself, without those that it is made of: these stand behind it in a list of parts.
# The number is that which follows the kind in a row, 0 where none does; all but a text have an empty text.
class Part:
    def __init__(self, kind, number, text):
        self.kind = kind
        self.number = number
        self.text = text


def numbers_of(part):
    if part.kind in (TEXT, ROW, INDENTED, NAMED):
        return [part.kind, part.number] + part.text
    return [part.kind]


def count_inner(part):
    if part.kind == ROW:
        return part.number
    if part.kind in (INDENTED, ALIGNED, GROUP):
        return 1
    return 0


# For the part at each place: spans tells how many parts it has, depths its depth, forced whether it is forced.
# They are found once, since laying asks for them again and again.
class Document:
    def __init__(self, parts):
        self.parts = parts
        self.spans = [1] * len(parts)
        self.depths = [1] * len(parts)
        self.forced = [False] * len(parts)
        # From the back, so that what a part is made of is measured before it.
        for place in range(len(parts) - 1, -1, -1):
            self.measure(place)

    def measure(self, place):
        inner = self.inner_places(place)
        self.spans[place] = 1 + sum([self.spans[spot] for spot in inner])
        self.depths[place] = 1 + max([self.depths[spot] for spot in inner], default=0)
        inner_forced = any([self.forced[spot] for spot in inner])
        self.forced[place] = inner_forced or self.parts[place].kind in (HARD, GAP)

    def inner_places(self, place):
        places = []
        spot = place + 1
        while len(places) < count_inner(self.parts[place]):
            places.append(spot)
            # Those between belong to the one that was found just now.
            spot += self.spans[spot]
        return places

    def count_bytes(self):
        return sum([len(part.text) for part in self.parts])

    def count_groups(self):
        return len([part for part in self.parts if part.kind == GROUP])

    def row_numbers(self):
        numbers = []
        for part in self.parts:
            numbers.extend(numbers_of(part))
        return numbers


def count_parts(parts, documents):
    count = 0
    for part in parts:
        if part.kind == NAMED:
            count += len(documents[part.number].parts)
        else:
            count += 1
    return count


def spell_out(parts, documents):
    spelled = []
    for part in parts:
        if part.kind == NAMED:
            spelled.extend(documents[part.number].parts)
        else:
            spelled.append(part)
    return spelled


# None stands for a document that is too large.
def make_document(parts, documents):
    # Counted ahead of spelling out: a row may name large documents more than a thousand times.
    if count_parts(parts, documents) > MOST_PARTS:
        return None
    document = Document(spell_out(parts, documents))
    if document.depths[0] > MOST_DEPTH or document.count_bytes() > MOST_BYTES:
        return None
    return document
