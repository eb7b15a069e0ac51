"""Sealchain: papers with seals, and by which chain they hold."""
