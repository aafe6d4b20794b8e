"""The dealings of runs: the coins that they take, the numbers that are dealt, and the parts of these."""


class Dealings:
    """The dealings of one run, in order, each into as many parts, by m.

    taken has the pairs (person, coin), dealt the pairs (person, number).
    """

    def __init__(self, many, m, coins):
        self.many = many
        self.m = m
        self.coins = coins
        self.taken = []
        self.dealt = []

    def parts_of(self, person, number):
        """The parts of a number that a person deals."""
        drawn = self.draw(number)
        self.dealt.append((person, number))
        self.taken.extend([(person, coin) for coin in drawn])
        return (*drawn, (number - sum(drawn)) % self.m)

    def draw(self, number):
        """The coins for the next dealing; the number that is dealt matters only where they are turned."""
        first = len(self.taken)
        return self.coins[first:first + self.many - 1]


class TurnedDealings(Dealings):
    """The dealings of a run on other inputs than those of a first one, with the turned coins.

    at is the part, counted from 0, for which a coin is raised by as much as the number that is dealt
    differs from that of the first run. There is no coin for the last part: it differs by itself.
    """

    def __init__(self, first, at):
        super().__init__(first.many, first.m, first.coins)
        self.first = first
        self.at = at

    def draw(self, number):
        """The turned coins for the next dealing, of this number."""
        drawn = list(super().draw(number))
        if self.at < len(drawn):
            before = self.first.dealt[len(self.dealt)][1]
            drawn[self.at] = (drawn[self.at] + number - before) % self.m
        return drawn

    def coins_taken(self):
        """The list of the turned coins, as many as the run took."""
        return [coin for _, coin in self.taken]
