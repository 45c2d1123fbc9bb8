"""Where the things of a narrow body are: few in hands, all others in one room."""

from kindscarried.kind_numbers import KindNumbers

# How many places more a new room gets than twice what it must hold now.
SPARE = 16


class Hands:
    """The things that have names of their own, and the room that has the others.

    held leads from each thing in the hands to its name, never more than most of
    them, due to the moment when it is read next, and places from each thing in the
    room to its place there; what is in the hands may be in the room, too. empty
    leads from the number of a kind to the places for it in which nothing is. room_name
    is the name of the room, names is how many names are in scope, free how many kind
    variables, and rows are those of the body that is being made.
    """

    def __init__(self, survey, most):
        self.survey = survey
        self.most = most
        self.numbers = KindNumbers()
        self.known = {}
        self.part = survey.parts[0]
        self.at = 0
        self.held = {}
        self.due = {}
        self.places = {}
        self.empty = {}
        self.room_name = None
        self.names = 0
        self.free = 0
        self.rows = []

    def whereabouts(self):
        """What is where, to go on with in a body within this one."""
        return (self.held, self.places, self.empty, self.room_name)

    def go_on(self, part, at, kept, names, free):
        """Comes to the beginning of a part, which has this number, with what was kept ahead of it."""
        held, places, empty, self.room_name = kept
        self.part = part
        self.at = at
        self.names = names
        self.free = free
        self.rows = []
        self.held = {}
        self.due = {}
        for thing in held:
            self.take(thing, held[thing], part.first)
        self.places = dict(places)
        self.empty = {number: list(empty[number]) for number in empty}
        for thing in places:
            if self.survey.next_read(thing, part.first, part) is None:
                self.leave_place(thing)

    def added(self, row):
        """Adds a row, and tells the name that it binds."""
        self.rows.append(row)
        self.names = self.names + 1
        return self.names - 1

    def take(self, thing, name, moment):
        """A thing with a name is in the hands, if it is read from the moment on."""
        read = self.survey.next_read(thing, moment, self.part)
        if read is not None:
            self.held[thing] = name
            self.due[thing] = read

    def let_go(self, things, moment):
        """Of these things, which were read ahead of the moment, only those stay that are read later, too."""
        for thing in things:
            name = self.held.pop(thing)
            self.take(thing, name, moment)
            if thing not in self.held and thing in self.places:
                self.leave_place(thing)

    def leave_place(self, thing):
        place = self.places.pop(thing)
        self.empty.setdefault(self.kind_number(thing), []).append(place)

    def kind_number(self, thing):
        if thing not in self.known:
            self.known[thing] = self.numbers.number_of(self.survey.kinds[thing])
        return self.known[thing]

    def fetch(self, things, moment, binds):
        """Takes these things, which are read at the moment, in the hands.

        Behind it there is a hand for what is bound then, if anything is.
        """
        wanted = {thing: True for thing in things}
        later = [thing for thing in things if self.survey.next_read(thing, moment + 1, self.part) is not None]
        idle = len([thing for thing in self.held if thing not in wanted])
        while idle + len(things) > self.most or idle + len(later) + (1 if binds else 0) > self.most:
            self.put_away(self.idlest(wanted), moment)
            idle = idle - 1
        for thing in things:
            if thing not in self.held:
                self.take(thing, self.added(("part", ("name", self.room_name), self.places[thing])), moment)

    def idlest(self, wanted):
        """What is in the hands, is none of the wanted things, and is read last of all."""
        told = None
        for thing in self.held:
            if thing not in wanted and (told is None or self.due[thing] > self.due[told]):
                told = thing
        return told

    def put_away(self, thing, moment):
        """The thing is in the room, and in the hands no more."""
        if thing not in self.places:
            number = self.kind_number(thing)
            if not self.empty.get(number):
                self.make_room(moment)
            place = self.empty[number].pop()
            self.places[thing] = place
            self.put_into_room(place, self.held[thing])
        self.held.pop(thing)

    def put_into_room(self, place, name):
        self.room_name = self.added(("put", ("name", self.room_name), place, ("name", name)))

    def make_room(self, moment):
        """Makes the room anew: for what is in it, what is in the hands, and some of what is to come."""
        old = self.room_name
        before = list(self.places.items())
        things = [inside for inside, _ in before]
        more = [other for other in self.held if other not in self.places]
        more.extend(self.coming(len(things) + SPARE, moment))
        self.room_name = self.added(("room", tuple([self.survey.kinds[inside] for inside in things + more])))
        self.empty = {}
        for index, other in enumerate(more):
            self.empty.setdefault(self.kind_number(other), []).append(len(things) + index)
        for place, (inside, former) in enumerate(before):
            name = self.held[inside] if inside in self.held else self.added(("part", ("name", old), former))
            self.put_into_room(place, name)
            self.places[inside] = place

    def coming(self, many, moment):
        """The first ones, so many or fewer, of the things bound from the moment on that a room made now should hold."""
        told = []
        looked_at = 0
        parts = [self.at]
        first = moment - self.part.first
        while parts and looked_at < 8 * many:
            inner = []
            for number in parts:
                part = self.survey.parts[number]
                for index in range(first, len(part.things)):
                    looked_at = looked_at + 1
                    if self.has_use(part.things[index], part.first + index):
                        told.append(part.things[index])
                    if len(told) == many:
                        return told
                first = 0
                inner.extend(part.inner)
            parts = inner
        return told

    def has_use(self, thing, moment):
        """Whether a room made now may hold a thing bound at this moment, and it is not read soon for the last time."""
        moments = self.survey.moments[thing]
        if not moments or moments[-1] <= moment + self.most:
            return False
        return self.numbers.wanted[self.kind_number(thing)] <= self.free
