package keep

import (
	"vademecum/api"
	"vademecum/pack"
)

// isKind tells whether records are of a Kind.
func isKind(kind int) bool { return api.RSentence <= kind && kind <= api.RCommit }

// take takes the parts of a record from the front of s, whatever its Kind, and tells what is behind them.
func take(s string) (api.Record, string, error) {
	kind, rest, err := pack.Take(s)
	if err != nil {
		return api.Record{}, "", noPart("Kind", err)
	}
	n, rest, err := pack.Take(rest)
	if err != nil {
		return api.Record{}, "", noPart("N", err)
	}
	text, rest, err := pack.TakeText(rest, api.MaxLine)
	if err != nil {
		return api.Record{}, "", noPart("Text", err)
	}
	return api.Record{Kind: kind, N: n, Text: text}, rest, nil
}
