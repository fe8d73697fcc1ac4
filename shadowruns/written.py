"""How integers, bounds, EXPRESSIONs and CONDITIONs are written in texts, and how they are read."""

from shadowruns.grammar import is_name

MOST_DIGITS = 13
CHUNK = 10 ** 64
CHUNK_DIGITS = 64
CONDITIONS = ("less", "equal", "not", "and", "or")
# for each sign what it makes, of how many parts, and whether these are CONDITIONs
SIGNS = {
    "+": ("add", 2, False), "-": ("sub", 2, False), "*": ("mul", 2, False), "/": ("div", 2, False),
    "~": ("mod", 2, False), "@": ("item", 2, False), "<": ("less", 2, False), "=": ("equal", 2, False),
    "!": ("not", 1, True), "&": ("and", 2, True), "|": ("or", 2, True),
}


def number_text(n):
    """An integer as a text; str alone would refuse one of thousands of digits."""
    if n < 0:
        return "-" + number_text(-n)
    chunks = []
    while n >= CHUNK:
        n, low = divmod(n, CHUNK)
        chunks.append(str(low).zfill(CHUNK_DIGITS))
    chunks.append(str(n))
    return "".join(reversed(chunks))


def bound_text(bound):
    """A bound as a text."""
    if bound is None:
        return "?"
    return number_text(bound)


def number_in(word):
    """The integer that a word is; None if it is none, or has too many digits."""
    digits = word[1:] if word.startswith("-") else word
    if len(digits) == 0 or len(digits) > MOST_DIGITS:
        return None
    if any([digit not in "0123456789" for digit in digits]):
        return None
    if digits[0] == "0" and word != "0":
        return None
    return int(word)


def is_bound(word):
    """Whether a word is a bound."""
    return word == "?" or number_in(word) is not None


def bound_in(word):
    """The bound that a word is, None being no bound."""
    if word == "?":
        return None
    return number_in(word)


def part_text(part):
    """An EXPRESSION or a CONDITION as a text."""
    made = part[0]
    if made == "num":
        return number_text(part[1])
    if made == "var":
        return part[1]
    sign = [word for word in SIGNS if SIGNS[word][0] == made][0]
    rest = [part[1]] if made == "item" else [part_text(part[1])]
    rest.extend([part_text(inner) for inner in part[2:]])
    return " ".join([sign] + rest)


def parts_in(words, arrays):
    """The list of the EXPRESSIONs and CONDITIONs that words are; None if they are not written like any.

    They are read from the end, where each sign finds its parts on a pile: so no line is too deep.
    """
    # behind @ stands an array, and nowhere else
    if not all([(word in arrays) == (ahead == "@") for ahead, word in zip([""] + words, words)]):
        return None
    pile = []
    for word in reversed(words):
        part = part_in(word, pile)
        if part is None:
            return None
        pile.append(part)
    return list(reversed(pile))


def part_in(word, pile):
    """The EXPRESSION or CONDITION that begins with a word and goes on with the last parts of the pile."""
    n = number_in(word)
    if n is not None:
        return ("num", n)
    if is_name(word):
        return ("var", word)
    if word not in SIGNS:
        return None
    made, many, of_conditions = SIGNS[word]
    if len(pile) < many:
        return None
    parts = [pile.pop() for _ in range(many)]
    if any([(part[0] in CONDITIONS) != of_conditions for part in parts]):
        return None
    if made == "item":
        # the NAME of the array was taken for that of a variable
        return (made, parts[0][1], parts[1])
    return (made, *parts)
