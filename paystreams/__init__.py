"""Paystreams: exact books of accounts that pay one another by streams that flow evenly."""
