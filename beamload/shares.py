"""What two whole numbers share: the greatest whole number that goes into both."""


def greatest_share(one, other):
    # A loop, since numbers of many figures take more steps than a recursion may go deep.
    share = abs(one)
    smaller = abs(other)
    while smaller != 0:
        left_over = share % smaller
        share = smaller
        smaller = left_over
    return share
