"""Terms of core: what they evaluate, when they are done, what is put in them."""

from kindscarried.core_shapes import DONE_WORDS, SLOTS, evaluated_terms, kinds_bound, names_bound
from kindscarried.kinds import with_free


def evaluated(term):
    """The tuple of the places of the terms that a term evaluates."""
    return tuple([place for place, _ in evaluated_terms(term)])


def is_done(term):
    """Whether nothing of a term is left to be evaluated."""
    pending = [term]
    while pending:
        part = pending.pop()
        if part[0] not in DONE_WORDS:
            return False
        pending.extend([inner for _, inner in evaluated_terms(part)])
    return True


class Change:
    """What becomes of a term whose parts are gone through; here, and of what a class below says nothing, all stays."""

    def name_told(self, number, names, kinds):
        """What stands in the place of the name with a number, below binders of so many names and kind variables."""
        return ("name", number)

    def kind_told(self, kind):
        """What stands in the place of a kind."""
        return kind

    def told(self, term, names, kinds):
        """What a term becomes, behind those in it."""
        return term


class Raising(Change):
    """Numbers of names and kind variables, from a floor on, become greater."""

    def __init__(self, names, kinds, name_floor, kind_floor):
        self.names = names
        self.kinds = kinds
        self.name_floor = name_floor
        self.kind_floor = kind_floor

    def name_told(self, number, names, kinds):
        return ("name", number + self.names if number >= self.name_floor else number)

    def kind_told(self, kind):
        return with_free(kind, lambda number: ("free", number + self.kinds if number >= self.kind_floor else number))


class Putting(Change):
    """Closed kinds and things come in the places of the outermost variables and names."""

    def __init__(self, kinds, things):
        self.kinds = kinds
        self.things = things
        self.raised_things = {}

    def name_told(self, number, names, kinds):
        if number >= len(self.things):
            return ("name", number - len(self.things))
        # The binders around come ahead of those of the thing, whose numbers are from 0 on.
        key = (number, names, kinds)
        if key not in self.raised_things:
            self.raised_things[key] = raised(self.things[number], names, kinds)
        return self.raised_things[key]

    def kind_told(self, kind):
        many = len(self.kinds)
        return with_free(kind, lambda number: self.kinds[number] if number < many else ("free", number - many))


def raised(term, names, kinds, name_floor=0, kind_floor=0):
    """The term with the numbers of names and kind variables from the floors on greater."""
    if names == 0 and kinds == 0:
        return term
    return changed_term(term, Raising(names, kinds, name_floor, kind_floor), 0, 0)


def put_in(term, kinds, things):
    """The closed term with these kinds and things in the places of its variables and names."""
    return changed_term(term, Putting(kinds, things), 0, 0)


def changed_term(term, change, names, kinds):
    """The term changed, below binders of so many names and kind variables; inner terms ahead of those around them.

    It calls itself once for each term that it goes down by, so that terms that
    are nested some hundred deep take no more than some hundred calls.
    """
    if term[0] == "name":
        return change.name_told(term[1], names, kinds)
    members = [term[0]]
    for slot, member in zip(SLOTS[term[0]], term[1:]):
        if slot in ("term", "branch"):
            members.append(changed_term(member, change, names, kinds))
        elif slot == "body":
            members.append(changed_term(member, change, names + names_bound(term), kinds + kinds_bound(term)))
        elif slot in ("terms", "bodies"):
            inside = names + (1 if slot == "bodies" else 0)
            rows = []
            for inner in member:
                rows.append(changed_term(inner, change, inside, kinds))
            members.append(tuple(rows))
        elif slot in ("kind", "own kind"):
            members.append(change.kind_told(member))
        elif slot in ("kinds", "own kinds"):
            members.append(tuple([change.kind_told(kind) for kind in member]))
        else:
            members.append(member)
    return change.told(tuple(members), names, kinds)
