"""Texts of shops: how shops are written, how they are read, and texts of no shop."""

import unittest

from sureprices.errors import InvalidShop, ParseError
from sureprices.texts import format_shop, parse_shop

from tests.samples import (
    ODD_OBJECTS, PAIR, SHOP, WRONG_SHOPS, mixed_shops, nested, rules_on_goods, rules_on_sums,
    shops_of_one_good)

TEXT = "5/3; pack 0 3 9 -, over 12 3"
SIGNS = "0123456789 -+_/,;.\n\tpackfromveuhPN\u0665\uff15\u00b2\u00a0"


def plain_text(shop):
    """The text of a shop, by its own words."""
    goods, rules = shop
    text = ""
    for number, (price, cost) in enumerate(goods):
        text += (", " if number > 0 else "") + str(price) + "/" + str(cost)
    text += "; "
    for number, rule in enumerate(rules):
        text += ", " if number > 0 else ""
        for place, item in enumerate(rule):
            text += " " if place > 0 else ""
            text += "-" if item is None else str(item)
    return text if rules else text + "none"


class TextTest(unittest.TestCase):
    def check(self, shop, text):
        self.assertEqual(format_shop(shop), text)
        self.assertEqual(parse_shop(text), shop)

    def refuse(self, text):
        with self.assertRaises(ParseError) as caught:
            parse_shop(text)
        self.assertIs(caught.exception.__class__, ParseError)

    def refuse_rules(self, *texts):
        for text in texts:
            self.refuse("5/3; " + text)
            self.refuse("5/3; over 12 3, " + text)
            self.refuse("5/3; " + text + ", over 12 3")

    def refuse_goods(self, *texts):
        for text in texts:
            self.refuse(text + "; none")
            self.refuse("5/3, " + text + "; over 12 3")


class Shops(TextTest):
    def test_examples(self):
        self.assertEqual(format_shop(SHOP), TEXT)
        self.assertEqual(parse_shop("7/0; none"), (((7, 0),), ()))
        self.assertEqual(format_shop(shop=SHOP), TEXT)
        self.assertEqual(parse_shop(text=TEXT), SHOP)

    def test_no_rules(self):
        self.check((((1, 0),), ()), "1/0; none")
        self.check((((9, 9),), ()), "9/9; none")
        self.check((((5, 3), (2, 1)), ()), "5/3, 2/1; none")

    def test_two_goods(self):
        self.check(PAIR, "5/3, 2/1; from 1 4 1, pack 0 2 7 1, each 6 3 -")

    def test_each_rule(self):
        goods = ((5, 3),)
        for rule, text in (
                (("pack", 0, 2, 2, 1), "pack 0 2 2 1"), (("pack", 0, 3, 30, 2), "pack 0 3 30 2"),
                (("pack", 0, 3, 10, None), "pack 0 3 10 -"), (("from", 0, 2, 1), "from 0 2 1"),
                (("from", 0, 4, 9), "from 0 4 9"), (("over", 2, 1), "over 2 1"),
                (("over", 12, 6), "over 12 6"), (("each", 2, 2, 1), "each 2 2 1"),
                (("each", 6, 6, 2), "each 6 6 2"), (("each", 6, 3, None), "each 6 3 -")):
            self.check((goods, (rule,)), "5/3; " + text)
            self.check((goods + goods, (rule,)), "5/3, 5/3; " + text)

    def test_four_rules(self):
        rules = (("over", 10, 6),) * 4
        self.check((((5, 3),), rules), "5/3; over 10 6, over 10 6, over 10 6, over 10 6")

    def test_kinds_of_values(self):
        self.assertIs(format_shop(SHOP).__class__, str)
        shop = parse_shop(TEXT)
        for value in (shop, shop[0], shop[1], shop[0][0], shop[1][0]):
            self.assertIs(value.__class__, tuple)
        for value in shop[0][0] + shop[1][0][1:4]:
            self.assertIs(value.__class__, int)

    def test_there_and_back(self):
        for shop in list(shops_of_one_good()) + list(mixed_shops(300)):
            self.check(shop, plain_text(shop))
        for rule in rules_on_goods(1) + rules_on_sums():
            shop = (((1, 0), (9, 9)), (rule, ("over", 2, 2)))
            self.check(shop, plain_text(shop))

    def test_all_goods(self):
        for price in range(1, 10):
            for cost in range(10):
                self.check((((price, cost),), ()), f"{price}/{cost}; none")
                self.check((((9, 0), (price, cost)), ()), f"9/0, {price}/{cost}; none")

    def test_wrong_shops(self):
        for shop in WRONG_SHOPS + ((((5, 3),), (("over", 5, 6),)), TEXT):
            with self.assertRaises(InvalidShop):
                format_shop(shop)


class NoShops(TextTest):
    def test_no_text(self):
        for value in ODD_OBJECTS + (
                None, 5, TEXT.encode(), bytearray(TEXT.encode()), [TEXT], (TEXT,), {TEXT: TEXT},
                list(TEXT), tuple(TEXT), SHOP, nested(30, tuple), nested(30, list)):
            self.refuse(value)

    def test_parts(self):
        for text in ("", " ", ";", "; ", ",", ", ", "none", "; none", "5/3", "5/3;", "5/3; ",
                     "5/3;none", "5/3 none", "5/3, none", "5/3; none; none", "5/3; none; ",
                     "5/3; none;", "; 5/3; none", "5/3; 5/3; none", "5/3; over 12 3; over 12 3",
                     "none; 5/3", "over 12 3; 5/3", "5/3; 2/1; none", "5/3: none", "none; none"):
            self.refuse(text)

    def test_spaces(self):
        for text in (" 5/3; none", "5/3; none ", "5/3 ; none", "5/3;  none", "5 /3; none",
                     "5/ 3; none", "5/3,2/1; none", "5/3,  2/1; none", "5/3 , 2/1; none",
                     "5/3 2/1; none", "5/3;\tnone", "5/3;\u00a0none", "5/3; over 12 3,over 2 2",
                     "5/3; over 12 3,  over 2 2", "5/3; over 12 3 , over 2 2",
                     "5/3; over 12 3, over 2 2 ", "5/3; over 12 3, ", "5/3; , over 12 3"):
            self.refuse(text)
        self.refuse_rules("over  12 3", "over 12  3", " over 12 3", "over 12 3 ", "over\t12 3",
                          "over 12\u00a03", "over12 3", "over 123", "over 1 2 3", "over 12,3")

    def test_line_ends(self):
        for text in (TEXT, "7/0; none"):
            for end in ("\n", "\r", "\r\n", "\x0b", "\x0c", "\x1c", "\x85", "\u2028", "\x00"):
                self.refuse(text + end)
                self.refuse(end + text)
                self.refuse(text.replace("; ", ";" + end))
                self.refuse(text.replace("/", end + "/"))

    def test_goods(self):
        self.refuse_goods("0/3", "10/3", "5/10", "99/3", "5/99", "5", "/", "5/", "/3", "5/3/1", "//",
                          "5//3", "5-3", "5 3", "5:3", "", " ", "-/3", "5/-", "none", "5/none",
                          "5/None", "a/b", "over/3")
        self.refuse("5/3, 5/3, 5/3; none")
        self.refuse("5/3, 2/1, 1/1; over 12 3")
        self.refuse("5/3, ; none")
        self.refuse(", 5/3; none")

    def test_how_numbers_are_written(self):
        for number in ("05", "005", "+5", "-5", "5_", "_5", "0_5", "5.", "5.0", "5e0", "0x5", "0b1",
                       "0o5", "5L", "\u0665", "\uff15", "\u2075", "\u2464", "five", "V", "1_0",
                       "5" * 5000, "0" * 5000, "0" * 4999 + "5", " 5", "5 ", "(5)", "'5'", "True"):
            self.refuse_goods(number + "/3", "5/" + number)
            self.refuse_rules(f"pack 0 2 {number} -", f"from 0 2 {number}", f"over 12 {number}",
                              f"each 6 {number} 1", f"over {number} 1", f"from {number} 2 5")
        for number in ("00", "-0", "+0", "\u0660", "\uff10", ""):
            self.refuse_goods("5/" + number)
            self.refuse_rules(f"pack {number} 2 9 -", f"from {number} 2 9")
        for number in ("01", "+1", "-1", "\u0661", "\u00b9", "1.0", "1_", "None", "none", "--", "*"):
            self.refuse_rules(f"each 6 3 {number}", f"pack 0 2 9 {number}")

    def test_bounds(self):
        self.refuse_rules(
            "pack 1 3 9 -", "pack 0 1 9 -", "pack 0 4 9 -", "pack 0 3 2 -", "pack 0 3 31 -",
            "pack 0 3 9 0", "pack 0 3 9 3", "from 1 2 1", "from 0 1 1", "from 0 5 1", "from 0 2 0",
            "from 0 2 10", "over 1 1", "over 13 1", "over 12 0", "over 12 7", "over 5 6",
            "each 1 1 1", "each 7 1 1", "each 6 0 1", "each 6 7 1", "each 5 6 1", "each 6 3 0",
            "each 6 3 3", "each 6 4 -", "each 5 3 -", "each 3 2 -")
        self.refuse("5/3, 2/1; from 2 2 1")
        self.refuse("5/3, 2/1; pack 2 2 2 1")

    def test_none_is_only_a_most(self):
        self.refuse_rules("pack - 3 9 1", "pack 0 - 9 1", "pack 0 3 - 1", "from - 2 9", "from 0 - 9",
                          "from 0 2 -", "over - 3", "over 12 -", "each - 3 1", "each 6 - 1", "-",
                          "- 0 3 9 -", "- -")

    def test_words(self):
        self.refuse_rules(
            "Pack 0 3 9 -", "PACK 0 3 9 -", "packs 0 3 9 -", "pac 0 3 9 -", "From 0 2 1",
            "FROM 0 2 1", "to 0 2 1", "Over 12 3", "OVER 12 3", "under 12 3", "Each 6 3 -",
            "EACH 6 3 -", "every 6 3 -", "12 3", "0 0 3 9 -", "off 0", "most 0 1", "'over' 12 3")
        for text in ("5/3; None", "5/3; NONE", "5/3; nones", "5/3; no", "5/3; -", "5/3; ()"):
            self.refuse(text)

    def test_numbers_of_items(self):
        self.refuse_rules(
            "pack", "pack 0", "pack 0 3 9", "pack 0 3 9 - -", "pack 0 3 9 1 1", "from", "from 0 2",
            "from 0 2 1 1", "from 0 2 1 -", "over", "over 12", "over 12 3 1", "over 12 3 -", "each",
            "each 6 3", "each 6 3 1 1", "each 6 3 - -", "")

    def test_numbers_of_rules(self):
        self.refuse("5/3; " + ", ".join(["over 12 3"] * 5))
        self.refuse("5/3; " + ", ".join(["over 12 3"] * 500))
        self.refuse("5/3; each 6 3 -, each 6 3 -")
        self.refuse("5/3; each 6 3 -, over 12 3, each 2 1 -")
        parse_shop("5/3; each 6 3 -, over 12 3, each 2 1 1")

    def test_none_beside_rules(self):
        self.refuse_rules("none none", "none 12 3", "none, none")
        self.refuse("5/3; none, over 12 3")
        self.refuse("5/3; over 12 3, none")
        self.refuse("5/3; over 12 3, none, over 12 3")

    def test_texts_one_sign_apart(self):
        for text in (TEXT, "5/3, 2/1; from 1 4 1, each 6 3 -", "7/0; none"):
            for place in range(len(text) + 1):
                for sign in SIGNS:
                    self.read_or_refuse(text[:place] + sign + text[place:])
                    self.read_or_refuse(text[:place] + sign + text[place + 1:])
                self.read_or_refuse(text[:place] + text[place + 1:])
                self.read_or_refuse(text[:place])
                self.read_or_refuse(text[place:])

    def read_or_refuse(self, text):
        try:
            shop = parse_shop(text)
        except ParseError:
            return
        self.assertEqual(plain_text(shop), text)
