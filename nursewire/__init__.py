"""The wire between machines and the nurses' station."""
