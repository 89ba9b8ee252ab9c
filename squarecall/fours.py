"""Halves of even floors: a call danced by four dancers tells what all eight do."""

from squarecall.dances import ways
from squarecall.halves import half, whole


def danced_half(four, call):
    own = list(range(len(four)))
    told = ways(whole(four), call, own)
    # Made whole again, for a dancer may meet one of those who were not danced.
    return half(whole(tuple([told[dancer][-1] for dancer in own])))
