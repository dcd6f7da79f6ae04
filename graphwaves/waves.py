"""The interface: the calls on one new wave, one behind another in a list, and their answers in another."""

from graphwaves.calls import answer_call
from graphwaves.wave import Wave

# How many whole numbers stand behind the number of each call, its list left out.
HOW_MANY = {
    0: 1, 1: 0, 2: 1, 3: 0, 4: 0, 5: 1, 6: 0, 7: 0, 8: 2, 9: 0, 10: 0,
    11: 0, 12: 2, 13: 0, 14: 0, 15: 2, 16: 1, 17: 1, 18: 2, 19: 0, 20: 1, 21: 0,
}
WITH_LIST = (0, 3, 9, 21)


def answers(calls):
    """Make the calls on a new wave; give back of each how many numbers are answered, and these."""
    wave = Wave()
    answered = []
    place = 0
    while place < len(calls):
        number = calls[place]
        behind = place + 1 + HOW_MANY[number]
        numbers = calls[place + 1:behind]
        row = []
        if number in WITH_LIST:
            begin = behind + 1
            behind = begin + calls[behind]
            row = calls[begin:behind]
        place = behind
        answer = answer_call(wave, number, numbers, row)
        answered.append(len(answer))
        answered.extend(answer)
    return answered
