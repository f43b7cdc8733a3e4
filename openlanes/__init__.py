"""Patrol scheduling for an icebreaker."""
