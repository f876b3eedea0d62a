"""Where writing stands: the column, and what is held."""

from widthlayout.kinds import BLANK_BYTE, BREAK_BYTE

# What is held, by the numbers that look answers.
HELD_NOTHING = 0
HELD_BLANK = 1
HELD_BREAK = 2
HELD_EMPTY_LINE = 3


# Apart from what is written, so that a thought needs no copy of that.
# Where no break and no empty line is held, the held indentation is 0.
class Pen:
    def __init__(self, column, held, held_indent):
        self.column = column
        self.held = held
        self.held_indent = held_indent

    def another(self):
        return Pen(self.column, self.held, self.held_indent)

    def hold(self, held, indent):
        self.held = held
        self.held_indent = indent

    def take_blank(self):
        if self.held == HELD_NOTHING and self.column != 0:
            self.hold(HELD_BLANK, 0)

    def take_break(self, indent):
        if self.column == 0:
            return
        if self.held == HELD_EMPTY_LINE:
            self.hold(HELD_EMPTY_LINE, indent)
        else:
            self.hold(HELD_BREAK, indent)

    def take_gap(self, indent):
        if self.column != 0:
            self.hold(HELD_EMPTY_LINE, indent)

    def take_text(self, size):
        self.column = self.text_column() + size
        self.hold(HELD_NOTHING, 0)

    def text_column(self):
        if self.held == HELD_NOTHING:
            return self.column
        if self.held == HELD_BLANK:
            return self.column + 1
        return self.held_indent

    def held_breaks(self):
        if self.held == HELD_EMPTY_LINE:
            return 2
        if self.held == HELD_BREAK:
            return 1
        return 0

    def held_bytes(self):
        if self.held == HELD_BLANK:
            return [BLANK_BYTE]
        return [BREAK_BYTE] * self.held_breaks() + [BLANK_BYTE] * self.held_indent
