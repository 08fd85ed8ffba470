"""What a call is refused with, so that a test can tell the class and all its fields at once."""

from taglook.errors import LookError


def refusal(call, *handed, **named):
    """The refusal of a call, None where it is not refused."""
    try:
        call(*handed, **named)
    except LookError as told:
        return told
    return None


def refused(call, *handed, **named):
    """The class and the fields of the refusal of a call, None where it is not refused."""
    told = refusal(call, *handed, **named)
    return None if told is None else (type(told), *vars(told).values())


class LikeNoOther:
    """A thing that is neither a text nor a number, nor equal to any."""


class LikeText:
    """A thing that is equal to a text, but is none."""

    def __init__(self, text):
        self.text = text

    def __eq__(self, other):
        return other == self.text

    def __hash__(self):
        return hash(self.text)


def no_names():
    return [
        "", "A", "aB", "a b", " a", "a ", "abcdefghi", "a1", "1", "a,b", "-", "a-b", "a\n", "\t",
        None, 0, 1, -1, True, False, [], ["a"], (), ("a",), {}, {"a": "b"}, 1.5, b"a", LikeNoOther(), LikeText("a"),
    ]


def no_rooms():
    return [0, 9, -1, 10**30, True, False, None, "4", "", 4.0, [], [4], (4,), {}, {4: 4}, LikeNoOther()]
