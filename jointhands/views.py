"""What quiet and loud runs have alike, and what a group of people sees of them."""

from jointhands.rows import put_rows


class Run:
    """What was told in a run, its letters, the coins that were taken, and what was dealt: lists, in order."""

    def __init__(self, told, letters, dealings):
        self.told = told
        self.letters = letters
        self.taken = dealings.taken
        self.dealt = dealings.dealt
        # The lists are the caller's, who may modify them: views are made of what stays as it is.
        self._kept_taken = tuple(self.taken)
        self._kept_letters = tuple(self.letters)

    def view(self, program, inputs, group):
        """The tuple of a group's inputs, of the coins that it took, and of the letters that it received."""
        seen = [(at, number) for at, number in zip(put_rows(program), inputs) if program[at][1] in group]
        coins = [coin for person, coin in self._kept_taken if person in group]
        letters = [letter for letter in self._kept_letters if letter[1] in group]
        return (tuple(seen), tuple(coins), tuple(letters))
