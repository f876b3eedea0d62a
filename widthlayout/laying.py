"""Laying a document within a width, step by step."""

from widthlayout.kinds import ALIGNED, BLANK, GAP, GROUP, HARD, INDENTED, LINE, SOFT, TEXT
from widthlayout.lines import Lines
from widthlayout.pen import HELD_NOTHING, Pen


# The document is told by its place among the parts.
class Command:
    def __init__(self, place, indent, flat):
        self.place = place
        self.indent = indent
        self.flat = flat


# flat_groups has 1 for a flat group and 0 for a broken one, in the order in which steps came to them.
# The width None stands for one within which every group fits.
class Laying:
    def __init__(self, document, width, flat):
        self.document = document
        self.width = width
        self.pen = Pen(0, HELD_NOTHING, 0)
        self.written = []
        self.lines = Lines()
        self.flat_groups = []
        self.greatest_reach = 0
        self.taken = 0
        # The first command stands last, so that taking it moves no other.
        self.commands = [Command(0, 0, flat)]

    def finish(self):
        while self.commands:
            self.step()

    def advance(self, count):
        end = self.taken + count
        while self.commands and self.taken < end:
            self.step()

    # Kind, indentation, and 1 if it's flat of the first command; empty if none is left.
    def tell_first(self):
        if not self.commands:
            return []
        first = self.commands[-1]
        return [self.document.parts[first.place].kind, first.indent, 1 if first.flat else 0]

    def step(self):
        self.taken += 1
        command = self.commands.pop()
        part = self.document.parts[command.place]
        if part.kind == TEXT:
            self.write(part.text)
        elif part.kind <= GAP:
            self.step_mark(part.kind, command)
        elif part.kind == GROUP:
            self.step_group(command)
        elif part.kind == INDENTED:
            self.go_inside(command, command.indent + part.number, command.flat)
        elif part.kind == ALIGNED:
            self.go_inside(command, self.pen.text_column(), command.flat)
        else:
            self.go_inside(command, command.indent, command.flat)

    def write(self, text):
        self.written.extend(self.pen.held_bytes())
        self.written.extend(text)
        self.lines.take_text(self.pen.held_breaks(), self.pen.text_column(), len(text))
        self.pen.take_text(len(text))

    def step_mark(self, kind, command):
        if command.flat and kind in (SOFT, LINE):
            self.lines.take_flat_break()
        if kind == BLANK or (kind == LINE and command.flat):
            self.pen.take_blank()
        elif kind == GAP:
            self.pen.take_gap(command.indent)
        elif kind == HARD or not command.flat:
            self.pen.take_break(command.indent)

    def step_group(self, command):
        place = command.place
        flat = command.flat or (not self.document.forced[place] and self.fits(place))
        self.flat_groups.append(1 if flat else 0)
        self.go_inside(command, command.indent, flat)

    def go_inside(self, command, indent, flat):
        for place in reversed(self.document.inner_places(command.place)):
            self.commands.append(Command(place, indent, flat))

    def fits(self, place):
        reach = self.find_reach(place)
        self.greatest_reach = max(self.greatest_reach, reach)
        return self.width is None or reach <= self.width

    # The greatest column behind a text that's written in thought, which is that of the last one: the thought ends
    # ahead of every new break. 0 if there's none, so that the group fits whatever the width.
    # Asked only of a group that is not forced and whose command is not flat. Steps come to the parts in their
    # order, so the thought walks on through them. None behind the group is flat then: flat commands come only
    # from a flat one, and all of these are taken before the next that is not flat.
    def find_reach(self, place):
        parts = self.document.parts
        behind = place + self.document.spans[place]
        pen = self.pen.another()
        reach = 0
        for spot in range(place + 1, len(parts)):
            kind = parts[spot].kind
            if kind == TEXT:
                pen.take_text(parts[spot].number)
                reach = pen.column
            elif spot >= behind and kind in (SOFT, LINE, HARD, GAP):
                break
            elif kind in (BLANK, LINE):
                pen.take_blank()
        return reach


def lay_out(document, width, flat):
    laying = Laying(document, width, flat)
    laying.finish()
    return laying


# If every group that can be flat is flat, a group fits within just those widths that its reach doesn't pass.
# Within a lesser width the first group whose reach passes it is broken, since all before it are still flat.
def least_width(document):
    return lay_out(document, None, False).greatest_reach
