"""The written form of matrices, rows, weavings and books."""


def write_matrix(matrix):
    """The text of the matrix."""
    entries = _numbers([entry for row in matrix.rows for entry in row])
    return f"{matrix.height}x{matrix.width}:{entries}"


def write_row(row):
    """The text of the row."""
    return f"{row.base} {_numbers(row.dims)} {_matrices(row.steps)}"


def write_weaving(weaving):
    """The text of the weaving."""
    return f"{weaving.lag} {_matrices(weaving.forth.parts)} {_matrices(weaving.back.parts)}"


def write_book(book):
    """The text of the book: a line for each row, and then one for each claim."""
    lines = [f"row {name} {write_row(book.row(name))}" for name in book.names()]
    return "\n".join(lines + [_claim_line(claim) for claim in book.claims()])


def _claim_line(claim):
    if claim[0] == "woven":
        _, first, second, weaving = claim
        return f"woven {first} {second} {write_weaving(weaving)}"
    if claim[0] == "lonely":
        _, first, second, lag, side, places = claim
        return f"lonely {first} {second} {lag} {side} {_numbers(places)}"
    _, first, second, side, places = claim
    return f"apart {first} {second} {side} {_numbers(places)}"


def _numbers(numbers):
    return ",".join([str(number) for number in numbers])


def _matrices(matrices):
    return ";".join([write_matrix(matrix) for matrix in matrices])
