package filter

import (
	"barbican/api"
	"barbican/bucket"
	"barbican/dice"
	"barbican/fields"
)

// options is the method of a request that asks what another site's page may do.
const options = "OPTIONS"

// The names of the fields that no config tells.
const (
	allowMethods  = "Access-Control-Allow-Methods"
	allowOrigin   = "Access-Control-Allow-Origin"
	authenticate  = "WWW-Authenticate"
	origin        = "Origin"
	requestMethod = "Access-Control-Request-Method"
)

// allFaults is of how many requests a fault's N counts those that get it.
const allFaults = 100

// request is a request on its way on, with its fields as the filters so far left them.
type request struct {
	now    int
	method string
	fields []api.Field
	size   int
}

// filter is a filter at work.
type filter interface {
	// forth takes a request on; what it answers stops, if the filter replies.
	forth(r *request) Verdict
	// back takes a response's fields back.
	back(list []api.Field) []api.Field
}

// common is what all filters have: what the config says of them, and what they do where nothing else is told.
type common struct {
	api.Filter
}

type (
	setFilter  struct{ common }
	dropFilter struct{ common }

	limitFilter struct {
		common
		bucket *bucket.Bucket
	}

	tokenFilter struct{ common }
	corsFilter  struct{ common }
	bodyFilter  struct{ common }

	faultFilter struct {
		common
		dice *dice.Dice // one for all faults of a chain
	}

	answerFilter struct{ common }
)

// build makes a filter, which draws from faults if it is a FilterFault.
func build(f api.Filter, faults *dice.Dice) filter {
	c := common{f}
	switch f.Kind {
	case api.FilterSet:
		return setFilter{c}
	case api.FilterDrop:
		return dropFilter{c}
	case api.FilterLimit:
		// Of numbers that aren't right there is no bucket, and so never a token.
		tokens, _ := bucket.New(f.N, f.M, f.K, 0)
		return limitFilter{c, tokens}
	case api.FilterToken:
		return tokenFilter{c}
	case api.FilterCors:
		return corsFilter{c}
	case api.FilterBody:
		return bodyFilter{c}
	case api.FilterFault:
		return faultFilter{c, faults}
	case api.FilterAnswer:
		return answerFilter{c}
	}
	return c
}

// forth lets a request pass as it is.
func (c common) forth(r *request) Verdict {
	return Verdict{}
}

// back lets a response's fields pass as they are.
func (c common) back(list []api.Field) []api.Field {
	return list
}

// reply is a reply of the chain's own.
func (c common) reply(status int, body string, list ...api.Field) Verdict {
	return Verdict{Stop: true, Status: status, Fields: list, Body: body}
}

func (f setFilter) forth(r *request) Verdict {
	r.fields = fields.Set(r.fields, f.Name, f.Value)
	return Verdict{}
}

func (f dropFilter) forth(r *request) Verdict {
	r.fields = fields.Remove(r.fields, f.Name)
	return Verdict{}
}

func (f limitFilter) forth(r *request) Verdict {
	if f.bucket != nil {
		// The chain lets no time through that the bucket would refuse.
		if took, _ := f.bucket.Take(r.now, 1); took {
			return Verdict{}
		}
	}
	return f.reply(429, "slow down")
}

func (f tokenFilter) forth(r *request) Verdict {
	// Just one, since a server could take another of several than the one that is looked at here.
	value, n := fields.Get(r.fields, f.Name)
	if n != 1 || value != f.Value {
		return f.reply(401, "no entry", api.Field{Name: authenticate, Value: "Token"})
	}
	r.fields = fields.Remove(r.fields, f.Name)
	return Verdict{}
}

func (f corsFilter) forth(r *request) Verdict {
	_, origins := fields.Get(r.fields, origin)
	method, methods := fields.Get(r.fields, requestMethod)
	if r.method != options || origins == 0 || methods == 0 {
		return Verdict{}
	}
	return f.reply(200, "", api.Field{Name: allowOrigin, Value: f.Value}, api.Field{Name: allowMethods, Value: method})
}

func (f corsFilter) back(list []api.Field) []api.Field {
	return fields.Set(list, allowOrigin, f.Value)
}

func (f bodyFilter) forth(r *request) Verdict {
	if r.size > f.N {
		return f.reply(413, "too much")
	}
	return Verdict{}
}

func (f faultFilter) forth(r *request) Verdict {
	if f.dice.Below(allFaults) < f.N {
		return f.reply(f.M, "fault")
	}
	return Verdict{}
}

func (f answerFilter) back(list []api.Field) []api.Field {
	return fields.Set(list, f.Name, f.Value)
}
