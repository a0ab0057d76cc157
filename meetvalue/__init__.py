"""Settings told in many places, met together."""
