"""[4] and check_talk."""

import unittest

from jointhands.errors import BadTable, BadTalk
from jointhands.talks import check_talk
from tests.helpers import (all_alike, bushy, chained, no_integers, plain_end, say, strangers, told_alike, within)

# A talk for tables of two rows and three columns, with three coins of side 0 and two of side 1.
TABLE = ((5, 6, 7), (8, 9, -1))
BITS0 = ((0, 1, 0), (1, 1, 0))
BITS1 = ((0, 1), (1, 0), (0, 0))
ANSWERS0 = ((5, 6, 7), (8, 9, 10 ** 50))
ANSWERS1 = ((5, 6), (-7, 8), (9, 0))
END = ("end", ANSWERS0, ANSWERS1)
TREE = say(0, BITS0, END, say(1, BITS1, END, END))
TALK = ("talk", 3, 2, TREE)

ONE = ((0,),)
SMALL_END = ("end", ONE, ONE)


def changed(value, at, item):
    """The tuple with another item in one place."""
    return value[:at] + (item,) + value[at + 1:]


def talk_of(tree):
    """A talk with one coin for each side."""
    return ("talk", 1, 1, tree)


class CheckTalk(unittest.TestCase):
    def refused(self, talk, table=TABLE):
        with self.assertRaises(BadTalk):
            check_talk(talk, table)

    def let(self, talk, table=TABLE):
        self.assertIsNone(check_talk(talk, table))

    def each_tree_refused(self, tree):
        """Refused alone, and at all places within another one."""
        self.refused(("talk", 3, 2, tree))
        self.refused(("talk", 3, 2, say(0, BITS0, tree, END)))
        self.refused(("talk", 3, 2, say(0, BITS0, END, tree)))
        self.refused(("talk", 3, 2, say(1, BITS1, END, say(0, BITS0, tree, END))))

    def test_talks_are_let(self):
        self.let(TALK)
        self.let(("talk", 3, 2, END))
        self.let(talk_of(SMALL_END), ((4,),))

    def test_from_1_to_256_coins(self):
        for coins0, coins1 in ((1, 1), (256, 1), (1, 256), (256, 256), (2, 255)):
            coins = (coins0, coins1)
            tree = say(1, told_alike(1, 3, coins1), plain_end((2, 3), coins), plain_end((2, 3), coins))
            with self.subTest(coins=coins):
                self.let(("talk", coins0, coins1, tree))

    def test_no_coins_and_257(self):
        for coins in ((0, 1), (1, 0), (257, 1), (1, 257), (-1, 1), (1, -1), (0, 0), (257, 257), (10 ** 5000, 1)):
            tree = plain_end((2, 3), tuple(min(max(number, 0), 300) for number in coins))
            with self.subTest(coins=coins[1]):
                self.refused(("talk", coins[0], coins[1], tree))

    def test_numbers_of_coins_that_are_no_integers(self):
        for coins in no_integers():
            with self.subTest(coins=repr(coins)):
                self.refused(("talk", coins, 1, SMALL_END), ((4,),))
                self.refused(("talk", 1, coins, SMALL_END), ((4,),))

    def test_the_table_is_told_first(self):
        for table in ((), ((),), [[1]], ((1, 2), (3,)), ((True,),), None, "table", all_alike(101, 1)):
            for talk in (TALK, None, (), ("talk",), ("talk", 0, 1, SMALL_END)):
                with self.subTest(table=table, talk=talk), self.assertRaises(BadTable):
                    check_talk(talk, table)

    def test_trees_250_deep_and_251(self):
        for way in (0, 1):
            for side in (0, 1):
                with self.subTest(way=way, side=side):
                    self.let(talk_of(chained(249, SMALL_END, way, side)), ((4,),))
                    self.let(talk_of(chained(250, SMALL_END, way, side)), ((4,),))
                    self.refused(talk_of(chained(251, SMALL_END, way, side)), ((4,),))
                    self.refused(talk_of(chained(252, SMALL_END, way, side)), ((4,),))

    def test_deep_at_one_place_alone(self):
        for many in (248, 249):
            tree = bushy(7, SMALL_END)
            inner = chained(many, SMALL_END)
            talk = talk_of(say(0, ((0,),), tree, say(0, ((0,),), inner, tree)))
            with self.subTest(many=many):
                if many == 248:
                    self.let(talk, ((4,),))
                else:
                    self.refused(talk, ((4,),))

    def test_trees_far_too_deep(self):
        for many in (1000, 5000, 200000):
            for way in (0, 1):
                with self.subTest(many=many, way=way), within(60):
                    self.refused(talk_of(chained(many, SMALL_END, way)), ((4,),))

    def test_up_to_40000_trees_in_all(self):
        for ends in (16384, 19999, 20000):
            with self.subTest(trees=2 * ends - 1), within(120):
                self.let(talk_of(bushy(ends, SMALL_END)), ((4,),))

    def test_more_than_40000_trees_in_all(self):
        for ends in (20001, 30000, 100000):
            with self.subTest(trees=2 * ends - 1), within(120):
                self.refused(talk_of(bushy(ends, SMALL_END)), ((4,),))

    def test_trees_count_as_often_as_they_stand(self):
        tree = SMALL_END
        for deep in range(2, 251):
            tree = say(0, ((0,),), tree, tree)
            if deep in (14, 15, 16, 17, 40, 100, 250):
                with self.subTest(deep=deep), within(120):
                    if 2 ** deep - 1 <= 40000:
                        self.let(talk_of(tree), ((4,),))
                    else:
                        self.refused(talk_of(tree), ((4,),))

    def test_one_tuple_at_many_places_of_a_large_talk(self):
        bits = told_alike(0, 100, 256)
        tree = plain_end((100, 100), (256, 256))
        for _ in range(200):
            tree = say(0, bits, tree, tree)
        with within(120):
            self.refused(("talk", 256, 256, tree), all_alike(100, 100))

    def test_a_tuple_at_many_places_is_counted_to_the_last_one(self):
        half = bushy(10000, SMALL_END)
        self.let(talk_of(say(0, ((0,),), half, half)), ((4,),))
        self.refused(talk_of(say(0, ((0,),), half, say(0, ((0,),), half, SMALL_END))), ((4,),))

    def test_bits_that_are_neither_0_nor_1(self):
        for bit in no_integers() + [2, -1, 10 ** 5000]:
            for side, bits in ((0, BITS0), (1, BITS1)):
                for at in range(len(bits)):
                    for coin in range(len(bits[at])):
                        with self.subTest(bit=type(bit), side=side, at=at, coin=coin):
                            other = changed(bits, at, changed(bits[at], coin, bit))
                            self.each_tree_refused(say(side, other, END, END))

    def test_a_bit_more_or_less(self):
        for side, bits in ((0, BITS0), (1, BITS1)):
            for other in (bits + bits[:1], bits[:-1], (), bits[0]):
                self.each_tree_refused(say(side, other, END, END))
            for at in range(len(bits)):
                for row in (bits[at] + (0,), bits[at][:-1], (), 0):
                    with self.subTest(side=side, at=at, row=row):
                        self.each_tree_refused(say(side, changed(bits, at, row), END, END))

    def test_an_answer_more_or_less(self):
        for place in (1, 2):
            told = END[place]
            for other in (told + told[:1], told[:-1], (), told[0], 5):
                self.each_tree_refused(changed(END, place, other))
            for at in range(len(told)):
                for row in (told[at] + (0,), told[at][:-1], (), 5):
                    with self.subTest(place=place, at=at, row=row):
                        self.each_tree_refused(changed(END, place, changed(told, at, row)))

    def test_answers_that_are_no_integers(self):
        for answer in no_integers():
            for place in (1, 2):
                told = END[place]
                for at in range(len(told)):
                    for coin in range(len(told[at])):
                        with self.subTest(answer=type(answer), place=place, at=at, coin=coin):
                            row = changed(told[at], coin, answer)
                            self.refused(("talk", 3, 2, changed(END, place, changed(told, at, row))))

    def test_answers_of_any_size(self):
        for answer in (0, -1, 10 ** 5000, -10 ** 5000):
            self.let(talk_of(("end", ((answer,),), ((answer,),))), ((4,),))

    def test_tables_of_another_size(self):
        self.let(TALK, all_alike(2, 3))
        for x, y in ((3, 2), (2, 2), (3, 3), (1, 3), (2, 4), (1, 1), (2, 1), (100, 100)):
            with self.subTest(x=x, y=y):
                self.refused(TALK, all_alike(x, y))

    def test_told_by_the_other_side(self):
        self.each_tree_refused(say(0, BITS1, END, END))
        self.each_tree_refused(say(1, BITS0, END, END))
        self.each_tree_refused(("end", ANSWERS1, ANSWERS0))
        self.refused(("talk", 2, 3, TREE))

    def test_sides(self):
        for side in no_integers() + [2, -1, 3]:
            for bits in (BITS0, BITS1):
                with self.subTest(side=repr(side)):
                    self.each_tree_refused(say(side, bits, END, END))

    def test_words(self):
        for word in ("", "Talk", "TALK", "talks", " talk", "say", "end", "people", b"talk", ("talk",), ["talk"], None, 0):
            with self.subTest(word=word):
                self.refused((word,) + TALK[1:])
        for word in ("", "Say", "SAY", "says", "say ", "end", "talk", b"say", ("say",), ["say"], None, 0):
            with self.subTest(word=word):
                self.each_tree_refused((word, 0, BITS0, END, END))
        for word in ("", "End", "END", "ends", "end ", "say", "talk", b"end", ("end",), ["end"], None, 0):
            with self.subTest(word=word):
                self.each_tree_refused((word, ANSWERS0, ANSWERS1))

    def test_lengths(self):
        for talk in (TALK + (0,), TALK[:-1], TALK[1:], TALK[:1], (), ("talk", 3, 2, TREE, TREE), ("talk", 3, TREE)):
            with self.subTest(talk=talk):
                self.refused(talk)
        whole = say(0, BITS0, END, END)
        for tree in (whole + (END,), whole[:-1], whole[1:], whole[:1], (), END + (ANSWERS1,), END[:-1], END[1:],
                     END[:1], ("end",), ("say",), ("say", 0, BITS0), ("end", ANSWERS0, ANSWERS1, END, END)):
            with self.subTest(tree=tree):
                self.each_tree_refused(tree)

    def test_lists_for_tuples(self):
        self.refused(list(TALK))
        self.each_tree_refused(list(END))
        self.each_tree_refused(list(say(0, BITS0, END, END)))
        for side, bits in ((0, BITS0), (1, BITS1)):
            self.each_tree_refused(say(side, list(bits), END, END))
            for at in range(len(bits)):
                self.each_tree_refused(say(side, changed(bits, at, list(bits[at])), END, END))
        for place in (1, 2):
            told = END[place]
            self.each_tree_refused(changed(END, place, list(told)))
            for at in range(len(told)):
                self.each_tree_refused(changed(END, place, changed(told, at, list(told[at]))))

    def test_whatever_else_raises_bad_talk_alone(self):
        for at in range(len(strangers())):
            with self.subTest(at=at):
                self.refused(strangers()[at])
                self.each_tree_refused(strangers()[at])
                self.each_tree_refused(say(0, strangers()[at], END, END))
                self.each_tree_refused(say(1, changed(BITS1, 2, strangers()[at]), END, END))
                self.each_tree_refused(("end", strangers()[at], ANSWERS1))
                self.each_tree_refused(("end", ANSWERS0, strangers()[at]))
                self.each_tree_refused(("end", ANSWERS0, changed(ANSWERS1, 0, strangers()[at])))

    def test_deep_tuples_in_other_places(self):
        deep = ()
        for _ in range(100000):
            deep = (deep,)
        for tree in (("end", deep, ONE), ("end", ONE, (deep,)), ("end", ONE, ((deep,),)), deep, (deep,) * 5,
                     say(0, deep, SMALL_END, SMALL_END), say(0, ((deep,),), SMALL_END, SMALL_END)):
            self.refused(talk_of(tree), ((4,),))
        self.refused(deep, ((4,),))
        self.refused(("talk", deep, 1, SMALL_END), ((4,),))


if __name__ == "__main__":
    unittest.main()
