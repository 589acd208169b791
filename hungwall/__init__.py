"""Hungwall: pictures of told shapes, told who is beside whom."""
