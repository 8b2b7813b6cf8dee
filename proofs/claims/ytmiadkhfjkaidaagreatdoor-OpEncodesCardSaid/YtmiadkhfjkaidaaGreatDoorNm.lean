/- Texts as names: as the texts on trees have them (in place of pth/XNm, where trees stand in the seat). -/
import Derived.Test.YtmiadkhfjkaidaaGreatDoorMg6
