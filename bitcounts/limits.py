"""How large formulas, tests and what is looked at together may become."""

RANK = 16
TOGETHER = 64
CLASSES = 256
NAMES = 3
