/- What the landed disk's Names tells: the map's keys, sorted. -/
import Derived.Test.YtmbpkbdaakchiaaWCrash7
