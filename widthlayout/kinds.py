"""The kinds of documents, by the numbers that tell them in a row, and the two bytes that stand between texts."""

TEXT = 0
BLANK = 1
SOFT = 2
LINE = 3
HARD = 4
GAP = 5
ROW = 6
INDENTED = 7
ALIGNED = 8
GROUP = 9
NAMED = 10

BREAK_BYTE = 10
BLANK_BYTE = 32
