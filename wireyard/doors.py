"""The doors in of a beat."""

from wireyard.bits import is_word
from wireyard.errors import BadDoors


def need_doors(doors, ins):
    """Refuses all but a dict from just the doors in, tuples of name and width, to words of their widths."""
    if not isinstance(doors, dict):
        raise BadDoors("doors are no dict")
    if not all([isinstance(name, str) for name in doors]):
        raise BadDoors("a door's name is no text")
    if len(doors) != len(ins):
        raise BadDoors("another count of doors")
    for name, width in ins:
        if name not in doors:
            raise BadDoors(f"door {name} is lacking")
        if not is_word(doors[name], width):
            raise BadDoors(f"door {name} has no word of its width")
