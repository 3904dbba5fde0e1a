"""The counts that a thing is declared with: its copies, and how many homes a read and a write must hear."""

from threeroofs.errors import NoCounts
from threeroofs.words import is_whole

MOST_COPIES = 5


def are_counts(copies, reads, writes):
    # Whole numbers come first: what is none may be a thing that can't be compared with one.
    if not (is_whole(copies) and is_whole(reads) and is_whole(writes)):
        return False
    return 1 <= copies <= MOST_COPIES and 1 <= reads <= copies and 1 <= writes <= copies


def need_counts(copies, reads, writes):
    if not are_counts(copies, reads, writes):
        raise NoCounts("the copies must be a whole number from 1 to 5, the reads and the writes from 1 to the copies")
