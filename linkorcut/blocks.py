"""Two rows that reach alike: the paper of a rule, or the lack that shows that there is none."""

from linkorcut.packing import packed
from linkorcut.rules import THOUGHT


def thinned(rule, ones, others):
    """What is left of two free rows when every name that the other row does not reach has gone."""
    left = sorted(ones)
    right = sorted(others)
    many = None
    while many != len(left) + len(right):
        many = len(left) + len(right)
        left = reached_by(rule, left, right)
        right = reached_by(rule, right, left)
    return (left, right)


def reached_by(rule, row, other):
    """The names of a row that another row reaches."""
    reached = rule.reach(other)
    return [name for name in row if name in reached]


def paper_of(rule):
    """A paper of a rule, or None where there is none."""
    rows = packed(rule, ties_alone(rule))
    paper = thinned(rule, rows[0], rows[1])
    # The thinned rows of as many ties as can be reach whatever any two rows that reach alike do.
    if THOUGHT in rule.reach(paper[0]):
        return paper
    return None


def lack_of(rule):
    """Two free rows and a bar that show that a rule has no paper, or None where it has one."""
    if paper_of(rule) is not None:
        return None
    bar = packed(rule, ties_alone(rule))[2]
    rows = packed(rule, rule.ties())
    # Without a paper the thought tie is one more that can be put in, so it is in one of the rows.
    if THOUGHT in rows[0]:
        return (rows[0], rows[1], bar)
    return (rows[1], rows[0], bar)


def ties_alone(rule):
    """The ties of a rule without the thought one."""
    return [tie for tie in rule.ties() if tie != THOUGHT]
