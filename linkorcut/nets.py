"""Nets: two poles, and ties between places."""

from linkorcut.errors import NoNumber, NotThere, TooMany, Twice

MOST_TIES = 14
MOST_PLACES = 8


def net_of(poles, ties):
    """The net of two poles and of ties in any order, or a refusal."""
    refuse_numbers(poles, ties)
    refuse_names(ties)
    net = put_in_order(poles, ties)
    if len(ties) > MOST_TIES or len(places_of(net)) > MOST_PLACES:
        raise TooMany()
    return net


def refuse_numbers(poles, ties):
    """Refuses the first number, as they are told, that no net may have."""
    numbers = list(poles)
    for tie in ties:
        numbers.extend(tie)
    for number in numbers:
        if not is_number(number):
            raise NoNumber(number)


def is_number(number):
    """Whether a number is from 0 and of at most sixty figures."""
    # Compared, not written out: Python refuses to write very long numbers.
    return 0 <= number < 10 ** 60


def refuse_names(ties):
    """Refuses the first name, as they are told, that an earlier tie has."""
    seen = {}
    for tie in ties:
        if tie[0] in seen:
            raise Twice(tie[0])
        seen[tie[0]] = True


def put_in_order(poles, ties):
    """The net of numbers that are known to be right, in the one form that nets have."""
    named = []
    for name, one, other in ties:
        named.append((name, min(one, other), max(one, other)))
    return ((min(poles[0], poles[1]), max(poles[0], poles[1])), sorted(named))


def own_net(net):
    """An equal net, made anew: what becomes of the one changes nothing in the other."""
    return put_in_order(net[0], net[1])


def places_of(net):
    """The sorted list of the places: the poles and the ends of the ties."""
    places = list(net[0])
    for tie in net[1]:
        places.extend(tie[1:])
    return sorted(set(places))


def names_of(net):
    """The sorted list of the names of the ties."""
    return [tie[0] for tie in net[1]]


def ends_of(net, tie):
    """The two ends of the tie of that name, the lesser first."""
    for name, one, other in net[1]:
        if name == tie:
            return (one, other)
    raise NotThere(tie)
