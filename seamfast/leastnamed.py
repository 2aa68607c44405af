"""Which cues must be named for all texts to be clear."""

from seamfast.ages import judge_memory, judged_named
from seamfast.errors import TooMany
from seamfast.known import Known, age_search
from seamfast.picks import picks
from seamfast.readers import sent_cues

MOST_SPEAKER_CUES = 8


def least_of_speaker(plan, speaker, cues, memory):
    """The first of the fewest cues of a speaker with which as the named ones all texts of this speaker are clear."""
    for named in picks(cues):
        if age_search(plan, named, memory, speaker).least_way(None) is None:
            return named
    return tuple(cues)


def least_named(plan, memory):
    """The first of the fewest cues with which as the named ones all texts on all ways are clear.

    The texts of a speaker are clear by the named cues of this speaker alone. So each speaker has the
    fewest ones, and of all that do the first ones.
    """
    judge_memory(memory)
    sent = {speaker: [] for speaker in plan.reel.speakers}
    for cue in sent_cues(plan):
        sent[plan.reel.cues[cue][2]].append(cue)
    if any([len(cues) > MOST_SPEAKER_CUES for cues in sent.values()]):
        raise TooMany("cue")
    named = []
    for speaker, cues in sent.items():
        named.extend(least_of_speaker(plan, speaker, cues, memory))
    return tuple(sorted(named))


def needed(plan, named, memory):
    """For each of the named cues, the least way on which a text is not clear if it is not named, or None."""
    kept = judged_named(plan.reel, named)
    judge_memory(memory)
    return tuple([Known(plan, [other for other in kept if other != cue], memory).way for cue in kept])
