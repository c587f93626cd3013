"""Things that several tests hand in."""

NO_TEXTS = (
    True, False, 0, 1, -7, 10 ** 59, None, 1.0, b"a", b"yes", [], ["a"], ["yes"], (), ("a",), ("yes",),
    {}, {"a": 1}, {"a"}, object(), str, len,
)
NO_NAMES = ("and", "each", "end", "is", "not", "or", "unless", "when")
