"""Decision tables of the frames of a book."""

from leaveledger.policies import policies_of
from leaveledger.verdicts import answers_by_valuation


def table(book, frame):
    """The decision table of the answers of a frame."""
    return table_of_values(answers_by_valuation(policies_of(book.flattened, frame), book.atoms(frame)))


def yes_table(book, frame, atoms):
    """The decision table that tells whether the answers of a frame are a yes, for atoms with all of the frame."""
    written = [book.written_cond(atom) for atom in atoms]
    answers = answers_by_valuation(policies_of(book.flattened, frame), written)
    return table_of_values([effect == "let" for effect, _, _, _ in answers])


def table_of_values(values):
    """The decision table of a value for each valuation, in the order of the valuations."""
    rows = []
    put_part(values, 0, rows, {})
    return tuple(rows)


def put_part(values, atom, rows, numbers):
    """Put what is not there yet of a part of a table behind the rows; the number of the part's root."""
    if len(values) == 1:
        return put_row(("leaf", values[0]), rows, numbers)
    half = len(values) // 2
    low = put_part(values[:half], atom + 1, rows, numbers)
    high = put_part(values[half:], atom + 1, rows, numbers)
    return low if low == high else put_row((atom, low, high), rows, numbers)


def put_row(row, rows, numbers):
    """Put a row behind the others if it is not there yet; its number."""
    if row not in numbers:
        numbers[row] = len(rows)
        rows.append(row)
    return numbers[row]
