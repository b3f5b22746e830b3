"""How many rows of a length have just so many ones."""


def choose(length, ones):
    if ones < 0 or ones > length:
        return 0
    many = 1
    # As many rows have so many ones as have so many noughts: the fewer of both need fewer steps.
    for got in range(min(ones, length - ones)):
        # From each row with got ones one of its noughts is made 1; each row with one more of the ones
        # comes about once for each of its ones, so the division leaves no rest.
        many = many * (length - got) // (got + 1)
    return many
