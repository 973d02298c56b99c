"""Spoorfold: likenesses of words that are done and undone, told with papers or with small worlds."""
