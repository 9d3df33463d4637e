"""Names, words and offers, and the parts that have them."""
