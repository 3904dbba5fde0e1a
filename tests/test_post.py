"""Letters and the post: points 2, 4, 51 and 53."""

import unittest

from threeroofs.errors import NoLetter
from threeroofs.post import ACK, HINT, PUT, QUERY, TOLD, Post

NO_LETTERS = [0, -1, 6, 10 ** 30, True, False, None, "", "1", 1.0, [], [1], (), (1,), {}, {1: 1}, {1}, b"1"]
STATE = {"x": (2, "v"), "y": (1, None)}
SENT = [
    (1, "put", 1, "a.1.a", 7),
    (2, "query", 2, "b.1.a", 0),
    (3, "ack", 1, "a.1.a", 7),
    (4, "told", 2, "b.1.a", 0),
    (5, "hint", None, "c.1.a", 255),
]


class PostCase(unittest.TestCase):
    def setUp(self):
        self.post = Post()
        self.post.send(PUT, 1, "a.1.a", 7, STATE)
        self.post.send(QUERY, 2, "b.1.a", 0, {})
        self.post.send(ACK, 1, "a.1.a", 7, {})
        self.post.send(TOLD, 2, "b.1.a", 0, STATE)
        self.post.send(HINT, None, "c.1.a", 255, STATE)


class Sending(PostCase):
    def test_a_new_post_has_no_letters(self):
        self.assertEqual(Post().letters(), [])

    def test_the_labels(self):
        self.assertEqual([PUT, HINT, QUERY, ACK, TOLD], ["put", "hint", "query", "ack", "told"])

    def test_all_letters_are_numbered_by_one_count_from_1_on(self):
        self.assertEqual(self.post.letters(), SENT)
        self.assertEqual([type(letter) for letter in self.post.letters()], [tuple] * 5)

    def test_a_letter_bears_what_it_was_sent_with(self):
        for number, label, ask, house, key in SENT:
            letter = self.post.take(number)
            self.assertEqual((letter.number, letter.label, letter.ask, letter.house, letter.key), SENT[number - 1])
            self.assertEqual(letter.state, {} if label in ("query", "ack") else STATE)

    def test_two_posts_have_nothing_to_do_with_one_another(self):
        other = Post()
        other.send(QUERY, 9, "z.z.z", 3, {})
        self.assertEqual(other.letters(), [(1, "query", 9, "z.z.z", 3)])
        other.take(1)
        self.assertEqual(self.post.letters(), SENT)


class Taking(PostCase):
    def test_a_letter_taken_is_on_its_way_no_more(self):
        for number in (3, 1, 5, 2, 4):
            before = self.post.letters()
            self.post.take(number)
            self.assertEqual(self.post.letters(), [letter for letter in before if letter[0] != number])
        self.assertEqual(self.post.letters(), [])

    def test_a_number_is_not_given_again(self):
        self.post.take(5)
        self.post.send(ACK, 4, "a.1.a", 7, {})
        self.assertEqual(self.post.letters(), SENT[:4] + [(6, "ack", 4, "a.1.a", 7)])


class Doubling(PostCase):
    def test_a_letter_like_it_in_all_but_the_number(self):
        for place, letter in enumerate(SENT):
            self.assertIsNone(self.post.twice(letter[0]))
            self.assertEqual(self.post.letters()[-1], (6 + place,) + letter[1:])
        self.assertEqual(self.post.letters()[:5], SENT)
        for number in (1, 4, 5):
            self.assertEqual(self.post.take(number + 5).state, STATE)

    def test_each_of_both_may_be_taken_and_doubled(self):
        self.post.twice(1)
        self.post.twice(6)
        self.post.take(1)
        self.post.take(6)
        self.assertEqual(self.post.letters(), SENT[1:] + [(7, "put", 1, "a.1.a", 7)])
        self.assertEqual(self.post.take(7).state, STATE)

    def test_the_two_share_no_state(self):
        self.post.twice(1)
        self.post.take(1).state.clear()
        self.assertEqual(self.post.take(6).state, STATE)


class Refusals(PostCase):
    def refuses(self, number):
        for deed in (self.post.take, self.post.twice):
            with self.subTest(number=number, deed=deed.__name__):
                before = self.post.letters()
                with self.assertRaises(NoLetter) as taken:
                    deed(number)
                self.assertIs(type(taken.exception.letter), type(number))
                self.assertEqual(taken.exception.letter, number)
                self.assertEqual(self.post.letters(), before)

    def test_what_is_no_number_of_a_letter(self):
        for number in NO_LETTERS:
            self.refuses(number)

    def test_a_letter_that_is_on_its_way_no_more(self):
        self.post.take(2)
        self.refuses(2)

    def test_a_refusal_uses_up_no_number(self):
        self.refuses(6)
        self.post.send(ACK, 4, "a.1.a", 7, {})
        self.assertEqual(self.post.letters()[-1], (6, "ack", 4, "a.1.a", 7))


class TheAskersOwn(PostCase):
    def test_a_state_handed_in_is_kept_as_it_was(self):
        state = {"x": (1, "v")}
        self.post.send(PUT, 3, "a.1.a", 7, state)
        state["x"] = (2, "w")
        state["y"] = (1, None)
        letter = self.post.take(6)
        self.assertEqual(letter.state, {"x": (1, "v")})
        letter.state.clear()
        self.assertEqual(state, {"x": (2, "w"), "y": (1, None)})

    def test_what_is_done_to_the_letters_told_changes_nothing(self):
        told = self.post.letters()
        self.post.letters().clear()
        self.assertEqual(self.post.letters(), SENT)
        self.post.take(1)
        self.post.twice(2)
        self.assertEqual(told, SENT)


if __name__ == "__main__":
    unittest.main()
