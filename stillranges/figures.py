"""Whole numbers in decimal figures."""


def figures(number):
    """The figures of a number, piece by piece: Python refuses to write or read a very long one at once."""
    rest = abs(number)
    pieces = []
    while rest >= 10 ** 64:
        rest, piece = divmod(rest, 10 ** 64)
        pieces.append(str(piece).zfill(64))
    pieces.append(str(rest))
    sign = "-" if number < 0 else ""
    return sign + "".join(pieces[::-1])


def number_told(word):
    """The number of which a word is the figures, None if there is none."""
    body = word[1:] if word.startswith("-") else word
    if not body or not all(["0" <= sign <= "9" for sign in body]):
        return None
    ahead = len(body) % 64
    number = int(body[:ahead] or "0")
    for at in range(ahead, len(body), 64):
        number = number * 10 ** 64 + int(body[at:at + 64])
    if word.startswith("-"):
        number = -number
    return number if figures(number) == word else None
