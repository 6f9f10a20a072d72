"""Things that several tests need."""

from lyinghouse.plain import PlainTree


def nested(depth, inside=(), make=lambda part: (part,)):
    """Something with so many layers around what is inside."""
    for _ in range(depth):
        inside = make(inside)
    return inside


def odd_values():
    """Any values (section 2), most of which are nothing in particular."""
    return [
        None, True, False, 0, 1, -1, 2001, 10 ** 18, 10 ** 18 + 1, 10 ** 39,
        "", "/", "a", "ann", "seal", "make", "/a b", "a\tb", "\n", "x" * 2001, "x" * 100001,
        [], [1], ["/a"], ["make", "/a"], {}, {"make": "/a"}, {1: [2]},
        (), (1,), (True,), ([],), ("make",), ("make", ["/a"]), ("seal", "ann"),
        PlainTree(), [PlainTree()], (PlainTree(),),
        nested(60), nested(60, [], lambda part: [part]), nested(60, {}, lambda part: {"a": part}),
        nested(60, True), nested(30, PlainTree()),
    ]


def raised(call, *args, **more):
    """The error that the call raises; None if it raises none."""
    try:
        call(*args, **more)
    except Exception as error:
        return error
    return None


def raises_with(error, kind, value):
    """Whether it is just this kind of error, and its value is this very object, or equal and of one class."""
    if type(error) is not kind:
        return False
    return error.value is value or (type(error.value) is type(value) and error.value == value)
