"""Deliveries of several goods, settled all at once."""
