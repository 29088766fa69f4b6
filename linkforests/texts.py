"""Texts of forests, of tuples of vertices, and of certificates."""

from linkforests.bounds import MAX_VERTICES
from linkforests.errors import BadText
from linkforests.forests import forest_error


def is_number_text(part, digits):
    """Returns whether part is the text of an integer of at most so many digits."""
    # Other digits than those of ASCII would be read as numbers, too.
    if not part.isascii() or not part.isdigit() or len(part) > digits:
        return False
    return part == "0" or not part.startswith("0")


def is_vertex_text(part):
    """Returns whether part is the text of an integer from 0 to MAX_VERTICES - 1."""
    return is_number_text(part, len(str(MAX_VERTICES))) and int(part) < MAX_VERTICES


def joined_text(numbers):
    """Returns the texts of the numbers with one space between two."""
    return " ".join([str(number) for number in numbers])


def forest_text(forest):
    """Returns the text of a forest."""
    return joined_text(forest)


def check_string(value):
    """Raises BadText if value is not a string."""
    if not isinstance(value, str):
        raise BadText(None)


def parse_forest(value):
    """Returns the forest whose text value is."""
    check_string(value)
    parents = []
    for index, part in enumerate(value.split(" ")):
        if index == MAX_VERTICES or not is_vertex_text(part):
            raise BadText(index)
        parents.append(int(part))
    wrong = forest_error(tuple(parents))
    if wrong is not None:
        raise BadText(wrong[0])
    return tuple(parents)


def vertices_text(vertices):
    """Returns the text of a tuple of vertices."""
    return joined_text(vertices) if vertices else "none"


def parse_vertices(value):
    """Returns the tuple of different integers whose text value is."""
    check_string(value)
    if value == "none":
        return ()
    vertices = []
    for index, part in enumerate(value.split(" ")):
        if index == MAX_VERTICES or not is_vertex_text(part) or int(part) in vertices:
            raise BadText(index)
        vertices.append(int(part))
    return tuple(vertices)


def certificate_text(certificate):
    """Returns the text of a certificate."""
    word, part = certificate
    return f"{word} {vertices_text(part)}" if word == "history" else f"{word} {part}"


def parse_certificate(value):
    """Returns the certificate whose text value is."""
    check_string(value)
    word, space, rest = value.partition(" ")
    if word == "history":
        return ("history", parse_history_part(rest))
    if word != "heavy":
        raise BadText(None)
    if not is_vertex_text(rest):
        raise BadText(0)
    return ("heavy", int(rest))


def parse_history_part(text):
    """Returns the tuple of different integers whose text stands in a certificate."""
    try:
        return parse_vertices(text)
    except BadText:
        raise BadText(0) from None
