"""Under way: where somebody is by a plan, and from where one may go on by another one."""

from roadbook.plans import Ways


def where_at(net, plan, moment, notices=None):
    """Where somebody is at a moment."""
    standing = Standing(net, plan, moment, notices)
    leg = standing.leg
    if standing.ended:
        return ("there",)
    if leg is None:
        return ("at", standing.place.stop)
    if leg[0] == "walk":
        return ("walking", standing.place.stop, leg[1])
    return ("on", leg[1], leg[2], standing.last_left())


def beginnings_at(net, plan, moment, notices=None):
    """The beginnings (stop, moment) from which one may plan again at a moment, as they come."""
    return [beginning for beginning, legs in Standing(net, plan, moment, notices).ways_on()]


def legs_to(net, plan, moment, beginning, notices=None):
    """The legs that a new plan from a beginning keeps of the old one, and a wait till the beginning."""
    standing = Standing(net, plan, moment, notices)
    if not standing.begun:
        return []
    under_way = [legs for place, legs in standing.ways_on() if place == beginning]
    return standing.done + under_way[0] + [("wait", beginning[1])]


def is_under_way(ways, leg, moment):
    """Whether a leg that comes next has begun: a walk does at once, a wait is no going."""
    if leg[0] == "ride":
        return ways.calls_by(leg)[leg[3]][2] <= moment
    return leg[0] == "walk"


class Standing:
    """How far somebody has gone by a plan at a moment."""

    def __init__(self, net, plan, moment, notices=None):
        self.ways = Ways(net, notices)
        self.moment = moment
        self.begun = moment >= plan[1]
        places = self.ways.places(plan)
        count = len([place for place in places[1:] if place.come <= moment])
        self.ended = self.begun and count == len(plan[2])
        self.done = plan[2][:count]
        self.place = places[count]
        self.leg = None
        if self.begun and count + 1 < len(places) and is_under_way(self.ways, plan[2][count], moment):
            self.leg = plan[2][count]

    def last_left(self):
        """The number of the last call that the run under way has left."""
        calls = self.ways.calls_by(self.leg)
        return max([number for number, call in enumerate(calls) if call[2] <= self.moment])

    def ways_on(self):
        """The beginnings from which one may plan again, each with the legs under way that lead there."""
        if not self.begun:
            return [((self.place.stop, self.moment), [])]
        if self.leg is None:
            return [((self.place.stop, max(self.moment, self.place.ready)), [])]
        found = []
        for leg in self.ways_to_end():
            place = self.ways.behind(self.place, leg)
            found.append(((place.stop, place.ready), [leg]))
        return found

    def ways_to_end(self):
        """The leg under way; of a ride one for each call where one may still get off."""
        leg = self.leg
        if leg[0] == "walk":
            return [leg]
        return [leg[:4] + (off, leg[5]) for off in range(self.last_left() + 1, leg[4] + 1)]
