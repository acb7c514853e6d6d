/-
  abacuslaw13: DirectiveStars (mkdstars.py).
-/
import Derived.Test.YtdfnpoojbnoeeaaDoorDSa
import Derived.Test.YtdfnpoojbnoeeaaDoorDStarsL
import Derived.Test.YtdfnpoojbnoeeaaDoorDStarsG
import Derived.Test.YtdfnpoojbnoeeaaDoorDStarsngk0
import Derived.Test.YtdfnpoojbnoeeaaDoorDStarsngk1
import Derived.Test.YtdfnpoojbnoeeaaDoorDStarsngwi
import Derived.Test.YtdfnpoojbnoeeaaDoorDStarsngng
import Derived.Test.YtdfnpoojbnoeeaaDoorDStarsngok
import Derived.Test.YtdfnpoojbnoeeaaDoorDStarszek1
import Derived.Test.YtdfnpoojbnoeeaaDoorDStarszewi
import Derived.Test.YtdfnpoojbnoeeaaDoorDStarszeng
import Derived.Test.YtdfnpoojbnoeeaaDoorDStarszeok
import Derived.Test.YtdfnpoojbnoeeaaDoorDStarspok1
import Derived.Test.YtdfnpoojbnoeeaaDoorDStarspong
import Derived.Test.YtdfnpoojbnoeeaaDoorDStarspook
import Derived.Test.YtdfnpoojbnoeeaaDoorDStarsnok1
import Derived.Test.YtdfnpoojbnoeeaaDoorDStarsnong
import Derived.Test.YtdfnpoojbnoeeaaDoorDStarsnook
namespace Go.Proofs.YtdfnpoojbnoeeaaDoor
open Go Go.RowKit Go.Deep Go.Shelf

theorem stars_law (p : Dr.Pc) (x y : Int) (w : World) (hp : PcW p) (x0 : -9223372036854775808 ≤ x) (x1 : x ≤ 9223372036854775807) (y0 : -9223372036854775808 ≤ y) (y1 : y ≤ 9223372036854775807) (hT : T10 w.heap.size w) :
    Calls Tryd.prog 8 #[.agg #[.string (strOfNums p.t), .int .u8 p.v, .int .i64 p.fl, .int .i64 p.wk, .int .i64 p.wd, .int .i64 p.pk, .int .i64 p.pr], .int .i64 x, .int .i64 y] w fun e w' => e = .returned (.bool true) ∧ Below w.heap.size w w' := by
  by_cases hr : Dr.isR p
  · have nw := hr.2.2.2.2.1
    have np := hr.2.2.2.2.2
    have hb3 : p.pk = 0 ∨ p.pk = 1 ∨ p.pk = 2 := by rcases np with ⟨q | q, _⟩ | ⟨q, _⟩ <;> omega
    have pb : p.pk = 1 → 0 ≤ p.pr ∧ p.pr ≤ 4096 := fun e => by rcases np with ⟨q | q, _⟩ | ⟨_, q, q2⟩ <;> omega
    by_cases ha : p.wk = 2
    · by_cases xl : x < -4096
      · exact stars_xl p x y w hp x0 x1 y0 y1 hT hr ha xl
      · by_cases xg : 4096 < x
        · exact stars_xg p x y w hp x0 x1 y0 y1 hT hr ha xg
        · by_cases xn : x < 0
          · have ax : (¬ x = 0) ∧ x < 0 := ⟨by omega, xn⟩
            rcases hb3 with hb | hb | hb
            · exact stars_ngk0 p x y w hp x0 x1 y0 y1 hT hr ha xl xg ax hb
            · exact stars_ngk1 p x y w hp x0 x1 y0 y1 hT hr ha xl xg ax hb (pb hb)
            · by_cases y4 : 4096 < y
              · exact stars_ngwi p x y w hp x0 x1 y0 y1 hT hr ha xl xg ax hb y4
              · by_cases yn : y < 0
                · exact stars_ngng p x y w hp x0 x1 y0 y1 hT hr ha xl xg ax hb yn
                · exact stars_ngok p x y w hp x0 x1 y0 y1 hT hr ha xl xg ax hb y4 yn
          · by_cases xz : x = 0
            · subst xz
              rcases hb3 with hb | hb | hb
              · exact stars_zek0 p y w hp x0 x1 y0 y1 hT hr ha hb
              · exact stars_zek1 p y w hp x0 x1 y0 y1 hT hr ha hb (pb hb)
              · by_cases y4 : 4096 < y
                · exact stars_zewi p y w hp x0 x1 y0 y1 hT hr ha hb y4
                · by_cases yn : y < 0
                  · exact stars_zeng p y w hp x0 x1 y0 y1 hT hr ha hb yn
                  · exact stars_zeok p y w hp x0 x1 y0 y1 hT hr ha hb y4 yn
            · have xp : 0 < x := by omega
              rcases hb3 with hb | hb | hb
              · exact stars_pok0 p x y w hp x0 x1 y0 y1 hT hr ha xl xg xp hb
              · exact stars_pok1 p x y w hp x0 x1 y0 y1 hT hr ha xl xg xp hb (pb hb)
              · by_cases y4 : 4096 < y
                · exact stars_powi p x y w hp x0 x1 y0 y1 hT hr ha xl xg xp hb y4
                · by_cases yn : y < 0
                  · exact stars_pong p x y w hp x0 x1 y0 y1 hT hr ha xl xg xp hb yn
                  · exact stars_pook p x y w hp x0 x1 y0 y1 hT hr ha xl xg xp hb y4 yn
    · have wb : 0 ≤ p.wd ∧ p.wd ≤ 4096 := by rcases nw with ⟨q | q, q2⟩ | ⟨_, q, q2⟩ <;> omega
      rcases hb3 with hb | hb | hb
      · exact stars_nok0 p x y w hp x0 x1 y0 y1 hT hr ha wb hb
      · exact stars_nok1 p x y w hp x0 x1 y0 y1 hT hr ha wb hb (pb hb)
      · by_cases y4 : 4096 < y
        · exact stars_nowi p x y w hp x0 x1 y0 y1 hT hr ha wb hb y4
        · by_cases yn : y < 0
          · exact stars_nong p x y w hp x0 x1 y0 y1 hT hr ha wb hb yn
          · exact stars_nook p x y w hp x0 x1 y0 y1 hT hr ha wb hb y4 yn
  · exact stars_nr p x y w hp x0 x1 y0 y1 hT hr
end Go.Proofs.YtdfnpoojbnoeeaaDoor
