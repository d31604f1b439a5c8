"""A keeper keeps a house from day to day: members join and leave, shares are told, signs are seen, deeds taken back."""

from nonegrowsrich.days import day
from nonegrowsrich.doubters import is_doubter, is_name
from nonegrowsrich.errors import NoDoubter, NoHouse, NoName, NoSign, NotRight, NotTold, NoWeight, Nothing, Told
from nonegrowsrich.finding import find
from nonegrowsrich.houses import is_right, is_weight, joined, left, members_at, motes, ones
from nonegrowsrich.shares import is_shares, is_within


class Keeper:
    """A house, the shares told today, the days seen, and all that may be taken back."""

    def __init__(self, many):
        if not is_within(many, 2, 3):
            raise NoHouse("a house is of 2 or 3 signs")
        self.held = (many, ())
        self.told = None
        self.seen = ()
        self.through = (0, 0)
        # (word, house, moved) of each deed not taken back, as they were ahead of it.
        self.past = ()

    def house(self):
        """The house as it stands."""
        return self.held

    def refuse_told(self):
        """Refuses what is not done while shares are told."""
        if self.told is not None:
            raise Told("shares are told today")

    def refuse_untold(self):
        """Refuses what is done only while shares are told."""
        if self.told is None:
            raise NotTold("no shares are told today")

    def change(self, word, house, came, went):
        """Makes the house another one by a deed that may be taken back."""
        self.past = self.past + ((word, self.held, self.through),)
        self.held = house
        self.through = (self.through[0] + came, self.through[1] + went)

    def join_member(self, word, path, member, came):
        """Puts the member into the house at the path; tells the member's own path."""
        house = joined(self.held, path, member)
        place = path + (len(members_at(self.held, path)),)
        self.change(word, house, came, 0)
        return place

    def found(self, path, name):
        """An empty house joins; told its path."""
        self.refuse_told()
        if not is_name(name):
            raise NoName("it is no NAME")
        return self.join_member("found", path, ("house", name, ()), 0)

    def join(self, path, doubter, weight):
        """A doubter joins as a one, with as many motes as its weight; told its path."""
        self.refuse_told()
        if not is_doubter(doubter, self.held[0]):
            raise NoDoubter("it is no doubter")
        if not is_weight(weight):
            raise NoWeight("it is no weight")
        one = ("one", doubter, doubter[2], weight, weight, 0, 0, 0)
        return self.join_member("join", path, one, weight)

    def leave(self, path):
        """The member at the path leaves; told the motes that go with it."""
        self.refuse_told()
        house, went = left(self.held, path)
        self.change("leave", house, 0, went)
        return went

    def tell(self, shares=None):
        """Today's shares, found where none are handed in; None where none are right."""
        self.refuse_told()
        if shares is None:
            self.told = find(self.held)
        elif is_shares(shares, self.held[0]) and is_right(self.held, shares):
            self.told = shares
        else:
            raise NotRight(0)
        return self.told

    def see(self, sign):
        """The day by the told shares; told the motes behind it."""
        self.refuse_untold()
        if not is_within(sign, 0, self.held[0] - 1):
            raise NoSign("it is no sign")
        shares = self.told
        self.change("see", day(self.held, shares, sign), 0, 0)
        self.seen = self.seen + ((shares, sign),)
        self.told = None
        return motes(self.held)

    def untell(self):
        """The shares told today aren't told any more."""
        self.refuse_untold()
        self.told = None

    def rows(self):
        """(shares, sign) of each day seen."""
        return self.seen

    def moved(self):
        """(joined, went): all motes that joined and that left with members."""
        return self.through

    def back(self):
        """Takes back the last deed; told its word."""
        if not self.past:
            raise Nothing("there is nothing to take back")
        word, house, through = self.past[-1]
        self.held = house
        self.through = through
        self.told = None
        self.past = self.past[:-1]
        if word == "see":
            self.seen = self.seen[:-1]
        return word

    def trial(self, ask):
        """What ask, called with this keeper, tells or raises; all is then as it was."""
        held = self.held
        told = self.told
        seen = self.seen
        through = self.through
        past = self.past
        try:
            return ask(self)
        finally:
            self.held, self.told, self.seen = held, told, seen
            self.through, self.past = through, past

    def __eq__(self, other):
        return (
            isinstance(other, Keeper)
            and self.held == other.held
            and self.told == other.told
            and self.seen == other.seen
            and self.through == other.through
        )

    def __len__(self):
        return len(ones(self.held))

    def __repr__(self):
        return f"Keeper({self.held[0]}, {len(ones(self.held))} ones)"
