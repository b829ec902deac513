"""Sums of products of letters, in which twice the same is nothing, and parts that raise them."""
