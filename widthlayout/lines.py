"""The lines that a document is laid to, found as its texts are written."""


class Line:
    def __init__(self, indent):
        self.indent = indent
        self.length = 0
        self.flat_breaks = 0


# waiting counts the flat breaks since the last text: whether they belong to its line shows at the next text only.
class Lines:
    def __init__(self):
        self.found = []
        self.waiting = 0

    def take_flat_break(self):
        self.waiting += 1

    # breaks tells how many bytes 10 are written ahead of the text, column at which one it begins.
    def take_text(self, breaks, column, size):
        if breaks == 2:
            self.found.append(Line(0))
        if breaks > 0 or not self.found:
            # No text begins with a blank, so the blanks ahead of it are the line's indentation.
            self.found.append(Line(column))
            # Those ahead of a line's first text belong to no line.
            self.waiting = 0
        line = self.found[-1]
        line.length = column + size
        line.flat_breaks += self.waiting
        self.waiting = 0

    def greatest_length(self):
        return max([line.length for line in self.found], default=0)

    def told_numbers(self):
        numbers = []
        for line in self.found:
            numbers.extend([line.length, line.indent, line.flat_breaks])
        return numbers
