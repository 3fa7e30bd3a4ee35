"""Papers: how the table of a group comes of the rows that make it, line by line."""

from bracketwords.doing import row_raised, rows_bracketed, rows_joined


class Writer:
    """A paper that is being written, with the row of each of its lines."""

    def __init__(self, ground, rows):
        self.base = ground
        self.handed = [tuple(row) for row in rows]
        self.lines = []
        self.reached = []

    def write(self, told):
        """Puts the line at the end, and tells its number, by which later lines name it."""
        self.reached.append(self.reckoned(told))
        self.lines.append(told)
        return len(self.lines) - 1

    def reckoned(self, told):
        """The row of a line whose lines ahead are written."""
        kind, first = told[0], told[1]
        if kind == "given":
            return self.handed[first]
        if kind == "table":
            return self.reached[first]
        if kind == "raise":
            return row_raised(self.base, self.reached[first], told[2])
        if kind == "join":
            return rows_joined(self.base, self.reached[first], self.reached[told[2]])
        return rows_bracketed(self.base, self.reached[first], self.reached[told[2]])

    def number_of(self, line, place):
        """The number that the line's row has at the place."""
        return self.reached[line][place]

    def taken_off(self, line, other, n):
        """The line of the first line's row joined with the other one's raised by -n, written where it is new."""
        if n == 0:
            return line
        return self.write(("join", line, self.write(("raise", other, -n))))


def paper_of(ground, rows):
    """The list of lines by which the rows of their group's table come of the rows."""
    return list(written(ground, rows).lines)


def followed(ground, rows, paper):
    """The list of the row of each line of the paper."""
    writer = Writer(ground, rows)
    for told in paper:
        writer.write(tuple(told))
    return list(writer.reached)


def written(ground, rows):
    """The writer of the paper that leads to the table."""
    writer = Writer(ground, rows)
    pool = [writer.write(("given", k)) for k in range(len(rows))]
    found = []
    for place in range(ground.places()):
        head, pool = gathered(writer, pool, place)
        if head is not None:
            # With the brackets among them, the powers of the rows that are found make a group. Each bracket is
            # deeper than both its rows, so it comes in time for the places behind, and may be too deep to count.
            pool.extend([
                writer.write(("bracket", line, head)) for line, ahead in found
                if ground.size_at(ahead) + ground.size_at(place) <= ground.depth()
            ])
            found.append((head, place))
    for head in lowered(writer, found):
        writer.write(("table", head))
    return writer


def gathered(writer, pool, place):
    """The line whose head, above 0, stands at the place, and the pool of all others, with 0 there.

    The rows of the pool have noughts ahead of the place; the line is None where they all have 0 at the place, too.
    """
    live = [line for line in pool if writer.number_of(line, place) != 0]
    rest = [line for line in pool if writer.number_of(line, place) == 0]
    while len(live) > 1:
        least = min(live, key=lambda line: abs(writer.number_of(line, place)))
        by = writer.number_of(least, place)
        # The nearest number of times leaves the least numbers, so this ends soon and the rows stay small.
        others = [
            writer.taken_off(line, least, (2 * writer.number_of(line, place) + by) // (2 * by))
            for line in live if line != least
        ]
        live = [least] + [line for line in others if writer.number_of(line, place) != 0]
        rest.extend([line for line in others if writer.number_of(line, place) == 0])
    if not live:
        return (None, rest)
    head = live[0]
    if writer.number_of(head, place) < 0:
        head = writer.write(("raise", head, -1))
    return (head, rest)


def lowered(writer, found):
    """The lines of the table's rows, by the lines found and the places of their heads.

    At the place of each head the rows ahead of it come to have a number from 0 to that head less 1.
    """
    done = []
    for head, place in reversed(found):
        line = head
        for other, at in done:
            line = writer.taken_off(line, other, writer.number_of(line, at) // writer.number_of(other, at))
        done = [(line, place)] + done
    return [line for line, place in done]
