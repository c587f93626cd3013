"""The cover of a paper: its first box, split until the goings by all parts are sure, or enough splits were made."""

from askpaper.boxes import going_by, range_in
from askpaper.looks import kinds_of


def ranges_of(log, box, kinds):
    """List the ranges of what a log asks, as tuples (question, k, low, high)."""
    asked = [row[1:] for row in log if row[0] == "ask"]
    return [(question, k) + range_in(box, kinds, question, k) for question, k in asked]


def narrowed(box, question, k, span):
    """Make a like box with this range for a question and a place."""
    part = dict(box)
    part[(question, k)] = span
    return part


def parts_of(box, kinds, question, k, cut):
    """Split a box in two: the ranks up to the cut, and those above."""
    span = range_in(box, kinds, question, k)
    return [narrowed(box, question, k, (span[0], cut)), narrowed(box, question, k, (cut + 1, span[1]))]


def cover(paper, most=64, fixed=None):
    """Cover a paper with leaves, by at most so many splits of its first box."""
    kinds = kinds_of(paper)
    # One box for each node there is; those that aren't worked yet stand behind.
    boxes = [{} if fixed is None else dict(fixed)]
    nodes = []
    splits = 0
    while len(nodes) < len(boxes):
        box = boxes[len(nodes)]
        told = going_by(paper, box)
        split = told[3]
        if split is not None and splits < most:
            splits += 1
            nodes.append(("split",) + split + (len(boxes), len(boxes) + 1))
            boxes.extend(parts_of(box, kinds, split[0], split[1], split[2]))
        else:
            nodes.append(("leaf", told[0], told[1], ranges_of(told[1], box, kinds), told[2]))
    return nodes
