"""Pairwarden: a pool of disks that never loses a block."""
