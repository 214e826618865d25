"""Two parts compared by their plans."""

from jawturns.rows import Rows, all_reached, check_kinds, check_lets
from jawturns.searches import is_stuck_of, least_number, least_plan, stuck_of


class PartingRows(Rows):
    """The rows of two parts; ends are those behind plans that do for exactly one of them."""

    def empty_does(self):
        """Tell whether the empty plan parts them."""
        one, other = self.numberings
        return (one.span == 1) != (other.span == 1)

    def is_end(self, row):
        """Tell whether the row parts them."""
        one, other = row[2]
        return (len(one) == 1) != (len(other) == 1)


class OuterRows(Rows):
    """The rows of two parts; ends are those behind plans that do for the first one alone."""

    def empty_does(self):
        """Tell whether the empty plan does for the first part alone."""
        one, other = self.numberings
        return one.span == 1 and other.span != 1

    def is_end(self, row):
        """Tell whether the first part alone has one rest left."""
        one, other = row[2]
        return len(one) == 1 and len(other) != 1


def same_plans(one, other, let):
    """Tell whether no plan that is let parts them."""
    _check_count(one, other, let)
    return least_number(PartingRows([one, other], let)) is None


def within(one, other, let):
    """Tell whether each plan that is let and does for one does for other, too."""
    _check_count(one, other, let)
    return least_number(OuterRows([one, other], let)) is None


def parting(one, other, let):
    """Return the shortest plan that is let and parts them, of several the least, or None."""
    _check_count(one, other, let)
    return least_plan(PartingRows([one, other], let))


def same_rows(one, other, let):
    """Return the ascending list of all rows that are come to, or None if some plan parts them."""
    _check_count(one, other, let)
    return stuck_of(PartingRows([one, other], let))


def is_same(one, other, let, thing):
    """Tell whether thing is a same list."""
    _check_both(one, other, let)
    return is_stuck_of(PartingRows([one, other], let), thing)


def alike(one, other):
    """Return the least turn that gives one the turnings of other, or None."""
    if one.words != other.words:
        return None
    # Turnings of unlike rounds are never equal.
    for c in range(one.around):
        if all([one[word].turned(c) == other[word] for word in one.words]):
            return c
    return None


def _check_both(one, other, let):
    """Make the checks of two parts and then those of the machine."""
    check_kinds([one, other], 2, 2)
    check_lets([one, other], let)


def _check_count(one, other, let):
    """Make the checks, and raise TooMany if more than 600 rows are come to."""
    _check_both(one, other, let)
    all_reached([one, other], let)
