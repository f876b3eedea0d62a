"""Laying a document within a width, step by step."""

from widthlayout.kinds import ALIGNED, BLANK, BLANK_BYTE, BREAK_BYTE, GAP, GROUP, HARD, INDENTED, LINE, SOFT, TEXT

HELD_NOTHING = 0
HELD_BLANK = 1
HELD_BREAK = 2
HELD_EMPTY_LINE = 3


# The column and what is held: apart from what is written, so that a thought needs no copy of that.
# Where no break and no empty line is held, the held indentation is 0.
class Pen:
    def __init__(self, column, held, held_indent):
        self.column = column
        self.held = held
        self.held_indent = held_indent

    def another(self):
        return Pen(self.column, self.held, self.held_indent)

    def hold(self, held, indent):
        self.held = held
        self.held_indent = indent

    def take_blank(self):
        if self.held == HELD_NOTHING and self.column != 0:
            self.hold(HELD_BLANK, 0)

    def take_break(self, indent):
        if self.column == 0:
            return
        if self.held == HELD_EMPTY_LINE:
            self.hold(HELD_EMPTY_LINE, indent)
        else:
            self.hold(HELD_BREAK, indent)

    def take_gap(self, indent):
        if self.column != 0:
            self.hold(HELD_EMPTY_LINE, indent)

    def take_text(self, size):
        self.column = self.text_column() + size
        self.hold(HELD_NOTHING, 0)

    def text_column(self):
        if self.held == HELD_NOTHING:
            return self.column
        if self.held == HELD_BLANK:
            return self.column + 1
        return self.held_indent

    def held_bytes(self):
        if self.held == HELD_NOTHING:
            return []
        if self.held == HELD_BLANK:
            return [BLANK_BYTE]
        blanks = [BLANK_BYTE] * self.held_indent
        if self.held == HELD_BREAK:
            return [BREAK_BYTE] + blanks
        return [BREAK_BYTE, BREAK_BYTE] + blanks


# The document is told by its place among the parts.
class Command:
    def __init__(self, place, indent, flat):
        self.place = place
        self.indent = indent
        self.flat = flat


# flat_groups has 1 for a flat group and 0 for a broken one, in the order in which steps came to them.
class Laying:
    def __init__(self, document, width, flat):
        self.document = document
        self.width = width
        self.pen = Pen(0, HELD_NOTHING, 0)
        self.written = []
        self.flat_groups = []
        # The first command stands last, so that taking it moves no other.
        self.commands = [Command(0, 0, flat)]

    def finish(self):
        while self.commands:
            self.step()

    def step(self):
        command = self.commands.pop()
        part = self.document.parts[command.place]
        if part.kind == TEXT:
            self.write(part.text)
        elif part.kind <= GAP:
            self.step_mark(part.kind, command)
        elif part.kind == GROUP:
            self.step_group(command)
        elif part.kind == INDENTED:
            self.go_inside(command, command.indent + part.number, command.flat)
        elif part.kind == ALIGNED:
            self.go_inside(command, self.pen.text_column(), command.flat)
        else:
            self.go_inside(command, command.indent, command.flat)

    def write(self, text):
        self.written.extend(self.pen.held_bytes())
        self.written.extend(text)
        self.pen.take_text(len(text))

    def step_mark(self, kind, command):
        if kind == BLANK or (kind == LINE and command.flat):
            self.pen.take_blank()
        elif kind == GAP:
            self.pen.take_gap(command.indent)
        elif kind == HARD or not command.flat:
            self.pen.take_break(command.indent)

    def step_group(self, command):
        place = command.place
        flat = command.flat or (not self.document.forced[place] and self.fits(place))
        self.flat_groups.append(1 if flat else 0)
        self.go_inside(command, command.indent, flat)

    def go_inside(self, command, indent, flat):
        for place in reversed(self.document.inner_places(command.place)):
            self.commands.append(Command(place, indent, flat))

    # Asked only of a group that is not forced and whose command is not flat. Steps come to the parts in their
    # order, so the thought walks on through them. None behind the group is flat then: flat commands come only
    # from a flat one, and all of these are taken before the next that is not flat. Indentation plays no part,
    # since the thought ends ahead of the first new break.
    def fits(self, place):
        parts = self.document.parts
        behind = place + self.document.spans[place]
        pen = self.pen.another()
        for spot in range(place + 1, len(parts)):
            kind = parts[spot].kind
            if kind == TEXT:
                pen.take_text(parts[spot].number)
                if pen.column > self.width:
                    return False
            elif spot >= behind and kind in (SOFT, LINE, HARD, GAP):
                return True
            elif kind in (BLANK, LINE):
                pen.take_blank()
        return True
