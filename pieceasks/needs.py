"""Which promises make two pieces alike."""

from pieceasks.comparing import check_shapes, compare
from pieceasks.errors import Unlike
from pieceasks.promises import Promises, is_kept, vows_in


def least_promises(one, other, promises):
    """All least subsets of promises under which two pieces are alike."""
    check_shapes(one, other)
    vows = vows_in(promises)
    if compare(one, other, vows) is not None:
        return ()
    # Each book that tells both apart shows some promises, one of which each right subset has.
    broken = []
    least = []
    for some in _subsets(vows):
        if not _meets_all(some, broken) or any([_has_all(some, fewer) for fewer in least]):
            continue
        book = compare(one, other, some)
        if book is None:
            least.append(some)
        else:
            broken.append([vow for vow in vows if not _keep((vow,), one, other, book)])
    return tuple([Promises(some) for some in least])


def _subsets(vows):
    """All subsets of promises, by size, then by their texts."""
    found = [()]
    for vow in vows:
        longer = [(*some, vow) for some in found]
        found = [*found, *longer]
    texts = {str(Promises(some)): some for some in found}
    ordered = [texts[text] for text in sorted([str(text) for text in texts])]
    return sorted(ordered, key=len)


def _keep(vows, one, other, book):
    """Whether both keep to promises on a book."""
    return is_kept(vows, one, book) and is_kept(vows, other, book)


def _meets_all(some, rows):
    """Whether each row has one of these."""
    return all([any([vow in row for vow in some]) for row in rows])


def _has_all(some, others):
    """Whether all others are among these."""
    return all([vow in some for vow in others])


def needed(one, other, promises):
    """For each promise a book that tells both apart without it, or None if it is not needed."""
    check_shapes(one, other)
    vows = vows_in(promises)
    book = compare(one, other, vows)
    if book is not None:
        raise Unlike(book)
    found = {}
    for vow in vows:
        found[vow] = compare(one, other, tuple([kept for kept in vows if kept != vow]))
    return found
