"""How tightly the signs of terms bind: the higher the level, the tighter."""

PICK_LEVEL = 0
SIGN_LEVELS = {"|": 1, "^": 2, "&": 3, "==": 4, "<": 4, "+": 5, "-": 5}
# Of the signs of this level no two stand side by side.
LONE_LEVEL = 4
# A not, and all that is one word or held together by brackets of its own.
TIGHT_LEVEL = 6
