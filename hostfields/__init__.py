"""Two sides part their hosts over fields: the exact worth, and the mixes of both."""
