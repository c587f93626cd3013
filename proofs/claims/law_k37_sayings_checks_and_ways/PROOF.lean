import PyProof.Rows.All
import OpenK.KLine
import OpenK.KWalk
import OpenK.KRaise
import Open.Line
import Wide.Line
import KE.IntBitsLaws
import KE.KIsAll
import KE.KTryMore
import KE.KNest
import KE.KNestM
import KE.KLam
import Wide.FinOn
import Lean
import PyProof.EqAt
import PyProof.EqKinds
import PyProof.TupleCall
import PyProof.ZipIter
import PyProof.Rows.ZipGen
import PyProof.EnumMake
import PyProof.EnumFor
import PyProof.EnumStmt
import KE.KDictOf
import PyProof.AttrMissHeap
import PyProof.NeKinds
import KE.KItem
import KE.KDictSum
import KE.KSortTup
import KE.KEqDict
import KE.KRevSl
import KE.KTabExpr
import KE.KPairComp
import PyProof.DictItems
import KE.KDictList
import PyProof.ListRange
import KE.KRevIter
import PySem.Challenge.RW_askpaper_k37_sayings_checks_and_ways
local macro_rules
 | `(‹$x:str›) => `((PySem.Str.ofString $x))
 | `(‹$x:ident›) => `((($x).mono (by first | decide | omega)))
 | `(‹0›) => `((by first | exact Or.inl rfl | exact Or.inr rfl))
local macro_rules | `(tactic| symm) => `(tactic| decide +kernel)
set_option Elab.async false
set_option linter.all false
set_option maxRecDepth 100000
open Lean in
local macro_rules
 | `(command| #print $s:str) => do
  let r := s.getString.toList.foldl (fun (r : Nat × Nat × Array Nat) c =>
   let n := r.2.1 * 62 + (if c.isDigit then c.toNat - 48 else if c.isUpper then c.toNat - 55 else c.toNat - 61)
   if r.1 == 10 then (0, 0, r.2.2.push n) else (r.1 + 1, n, r.2.2)) (0, 0, #[])
  return mkNullNode (← r.2.2.mapM fun n => do `(command| def $(mkIdent (.mkSimple s!"tw{n}")) := Nat))
namespace PySem.W.Fast
#print "BwKczlfYpW6C000UeQWScgC3mGdn30OyyC4wGf4cKCA9C5rJmnKD1TwC72KPD2x124C7viGeAIWHACBQIYRdqtKa1DmGdAhF1XLCEXotScs82RCGG0HNSKGOfCHH0g0Lh18CCHNDROdXkb0CHzCppvmR1WCK35rSJZl4FCMZIqMsSHhrCN4QArVa4KRCP7YI4mKyo8CRFwNDTReCH1FAKIuBsbxvCWr9RWcq3S3CbnWXAg1x3SCcGbhy1fxH9CcbrnmlMnh1Cd8sVgC7F8cCdiPtmPp5sSCesJJXsYjFX1GefcEjcgWJCjqgbfl4ZbCCl3VdvfF0Tc1HJHHiKNmSkCna78SMlAh1CoKp8Kcqt8QCoaD9hwNS5UCpMvdeHY3oUCpY1wn7NgFOCqGiVf7vEQpCsxbcs2FSqRCuR57hQyhrJCwYW2s6dMPfCwi2ugFCx9HD4EXgaqa7XPD5XSOgFc2RzD7ABYZClVSwD8XECZIPoOlD937ocd8YDF1JWKdSi8r4F1JhrGxCTxBu1Ji8tqbvazfDCUNCiOJDKkDKjULK44cykDMUcGET2ki7DQX6cy3euRlDS0SvcVzRv8DSQHJHWGNt8DTwyiCjbko4DVG3XljbDrFDVKr5W3BXI01LjXws2R0N3DY7vgZCXdheDa0Zv1Nk8WzDbeVftX1Y6WDewECDJ1dwLDfFOoK2GlttDhI7JvHX97PDiHgxQ0iW8WDkFnrocnzl8DkzBDqniYi4Dl7pipvExHkDlquAlcKJDODnqj9cWS4qMDoFBAjWqQMgDogiCqBi0Nx1NiJCMFoWC7DpBIZVC8Eq8DqcjmbZFdKBDsZ5cZvs0ltDurvOpFO9l3Dv0ZyuDqAfMDyYzx2pkjeZE1J11xyfCN41P3FRxlAaKSE484qlbH91l08jJYPXjAiWE8EoK4oS79sE9FjrPz5NK5ECZga2cyPsnEDcgit9pFGnEEu1w2bI9WLEFcy4SFxUjLEG8tLx379kQEGweOSuiW7jEHailtUV7WfEIcAyoQIA9YEJtrdqErU21ELQ3VqRfCMqEP82vgWJZZAEPXwBuWw1SSEQHcAVuJMNH1RSe3oTOslKEQuJ6bvJmJtERqbNyFagydESFPMG1QVgvESWA8xy3QVUEUVSg8wZPVaEVJhhOpmDVmEXDjFyjJkevEXyRfcz798LEYHs0seQ0dVEYu2h4rTmWEEZVUeUIt0S4Ecwm6Zv9YNZEd5ViU1hoGQEjpgbmnOfs2Elwq4CH2Y6fEmFyCtCptShEmRolgJi630End8CT64Dk5EtEUuXzRw3CEwXStqZOnKOExZ00VWYmpsEyQq782GXPpF2BTxTVT0Le1VDl4kQ7e2y1VI9YMys0lOF4GG6cYkOVwF4SfhPEJgKwF7WJvAElSHWF8DkYQIEiCbF9BsPULuoj7FA2CMe773ZcFC8wR1A7pfLFCwnXRENECsFDpVTjKTllUFDqTcH1qKejFG1vUxBGZlkFGbHuU33ALdFGuoAXBG1GHFHFZ7qXrMnUFHJAlbU12qYFHr40Xx7D49FIUPFYN2FrBFIv1rEnpfO1FJcQakS7M9A09VKCV9i0FpFKpFmSKxkmN1X5ZB4NUsxcFL0xWApgR0jFLEP73WTr9gFLGijk86LrMFM4qN7IISxlFPZPKYmvp19FSVNrDsxJ44FTjX1dpIMjGFW4p0QgmyxTFX6jeDrszpfFX9B5tOgZpxFYKOVeisWVPFaICILcuTwSFbgqgWLaPxqFc8DFEsgEvyFcTkriFCh2bFgYNe73kDcvFhMQ9DorDytFhS7LxSGLxRFhne98xW0psFhsXaTLuQvdFiiJOmrLWjVFipld6fPwIzFjoZHmMsriDFl9guVlNf8VFlo3YSmtNRyFmCfE1AQK48FoA1ZSjxTTBFoHfT9cDcdkFpDBJcBdU7cFrR00zcCoVm09q9jsjh7klFz6MGOByDi0G2NLXLMJ4qfG5Y1EKF9I3i1blEzpf0E7WG7qTsrkaaMSG8cpR9W0wuTG8jxRSVjzftG94Y0exYGHLG9RYv5mxNvdGDIL8vsAz1vGDoARksnFgqGIU9dhERYvc1d9MUqtxEspGKFSwsoupwOGNqzNVHvora1dbiroXyj0lGQYPxzc9likGQgfownDSqw1dwJ3ReriFxGRwzk7sEgwNGSDRLpoTGXIGTT7heV7EDmGWB7VGxEHY3GYGrBfnDLq41emXBfWCd0Q1f2rnjMgBXPGePI372j0VOGgq89NPSXC3GhNx6wOzkWFGhk7bSNGo8aGo4cwlBiPCu1gVKoQGAZZeGrB50dwUWIFGrBgpLYDq4oGv6ibizO3wlGwxTt1yFpry0AVozwZSl8WGxOG9MWdGPxGzOF5vaI0TMH0asUf5ZsNn1hVaMFLrArgH1JZBr67UcXH2jKNnYb7qEH3CLPpxO592H5PhZXJb9mDH6LBSlExq4aH8TR37MMgzxH9CGZu4Dod8H9nN8udvXBHHBcSrXhaZD7HC0CJ6p1zwgHHkV72DMd9QHIta6bWFiwUHJY8nO99xZqHLYecnJ3dCeHMnBJAddRYpHNJhjY7q3p0HNK9jVLvWJ9HQqwcaYfLSPHRU0GZBpUa1HRt0qnoyF7NHTnQRSqeixGHUAVeg0tmGHHV2iw9m3Cnl1knVREXdhArHZ5sjgQUYuAHZiCKjMvNSLHbFFO66uLEoHbkTuMcxgDiHdeXzoEVGPbHgZanFZK33xHiLQA8c4SpQHjriRsaI5BSHltAssPzl27HlukWP6ojDwHnAlfhmOqCEHoEFa1TL1sbHoN9I4dBLy31mXSOYIcAxMHrkMQAFzg4MHsBXvJMyPScHt9vNHuppksHtN2NAfkPIFHttogvQiZVHHvyZNFqSs5LHx68vdrDdKTHxTxtmQaQeXHxV0O7KZg3iHzih5rF5HyWI0kEqUyl2nxI2Y6rTIBaU3I5PgS5XU1ZYI61gGrjpDxBI6MHgd1yX8XI7trHAq8PDQI8bYY20K2OuI8g0m3i52X01owWs0fTE5BIFyhodJuF2YIG7TqGPEVs3IHJlcXv8467IIW00toSg7WIMOVpLAgnEjIMbIe0o4l4hIMiUJPgdisyIOekR0s2Fr2IPog2945s5uIU7fAmIpIHjIWOTtafmtMiIXf3NgHKh7iIY989wG5B6MIeBbovClGNOIfXfhiG7qojIfbppfEI8dt019mHN46YERIisd5Bh5P9VIizFKWKiOjx1sNiHrNFQwCIoXilmqf5fUIohO6IKQNc4Iolqc88SnhT1st1Is7HDmgIrI806BLiK00Bh7cVLQVBBIslxRfVCE0I1t7I129LUan1t8uXTKFxPyIu2LbOqALYLIvjj9uIX84fIwFWonduRD2IyrGaSYM3QOIzFpRioUXI4J2tCPGjG8rmJ5hhXLPPJqaJ8Iom8w72eZJDtjrgx1xyuJEvsAoLMYocJH7Vo1WYn6JJHZSIcjlShdJHt1mncHOR3JIOoxtQza9SJJ12FRELug6JJiRwyNVJDlJKYWAPSNHVBJMNxIWsYi9BJNPwaomEmlrJOnZZnkO0ftJPQAAMwHpbqJRM58YY6iatJRlNfNbY36OJS2a1AlJWcnJT86qlo3B4oJUzQQsGOMLSJV1UlGCW5QiJVVMeOLrqdZJVsWDEnirhgJW79qWy6spOJWaLlGfcdTwJWxX0cCvgyJJYPX0VquTVlJbRFMJqmGeQJcXWgwFOK7zJcXooX8goKyJd0egCp46BxJd1bT5BcLDMJdjrrNJbirj1xpAxD7ImMjJeI9zoBR7oPJg3fWGdubaJJiWSY4qrlmAJijMEZbYPVqJk6NKUoETKU1yemy4fynMuJmaOZIFEh7nJoZVa903hF4Jq6Jad0kN7uJt5Pk5gfa2yJyB2IB15Q6yK0CZloKHvVaK0ornN5hdpG20MJcR3Vr6cK7JXHHY6UPEK8CcI3PGvQgK8LW0qTkzK4K8NbzJVssEAKAMfktvSQ6KKBRiK0qRlNWKBT5jlgHfTLKDDPloOTZegKDngxWBfuKCKFG3Ph1idB2KFyOSH9RYqvKHpbF8NzY21KIlP2JWay9bKIwE0JwhqDpKJFFJZpACTDKJcyXCTR4V2KJsYcLbkeoWKKoI0PpUg3GKLxqe1YtaRG0CdPWCuSxbjKOAZDe46k7ZKOMiNqOYd3zKP7FwxahC7TKPAV5Ue5iPmKPXI2UMUM3EKPlgzo6M86CKSssASusJofKTQUcpmbPViKTldecTzgVkKW2I7ORLvI9KWN9YMDVifkKWWIYJe8f9DKYmfmJuUqIR23WAwDejQYpKfulFc3KP0L24Hm3kfTwe4KgwCke5LaCU24JC4IxQtDYKilY79wKzARKlUUjv6wWPZKmHWgJgfvPSKmfb1T9PkHkKoEVWdGSJxgKrg7hNg22ayKrqpBDN4uBLKsCsymSHAtDKsOjPX1Ee4MKtPl8m7kLPlKtnWl77uycWKvK3LnmVfRYKw4y4wiC7FHKzNOCh64uiyKzvDFCnULGJL0IJvSrGW8mL20D2QmZYyZL47XHOshjbqL7PPQoKUeo4L8dAjCTjWvALB71kqIjO6ILBqWRN0RLMFLC4YKVHPrJuLCJFiJYZTCyLEvNGz3fnttLGqCm67BSyHLH85ROwEyoxLI5NTB1BM7jLIPQk3zQ4odLK5H4U7g3SeLKYy93euRsZLLOZ5zs7XvaLLXFCHuC5pwLM1F0faqJYRLM4cZR2jDZrLM524MAdVJv28d16BTFiXU28fELdxiChJLTF6qPQOX9fLULexZjgJQdLUPu0lilQrGLW7SYtp9I5vLX5i3OfRRlaLXoQDp9rqiL29h5SNZpHZYLYzuC7Q0OhyLZLZPYiJOCILZxITER8CRpLbaheDajBvELdcdczFKUgsLfmqAiKhlrZLgQ8cLAiFZw2ASVSFAIoKSLi38DL6A4FyLlv3LcjXxzzLnRszmPRRd0Lp4hObImfDdLpNaLgAz0062BMIa9GoVrOLq3KgrrzGweLqQw2ysh3muLrL556Cu24CLratvicVKaHLsKXYWwY5s4Ltgj5O7uHA1LvO1KLu5T8DLxpRWNpl9ucLxwAp00pRNgLyc1Bl92iprLyfIbZ5QJKP2CU9426s01j2KdIthfrfbh2KqFp3yvk9v2M236HUzvKn2Nw3Ovt7nmh0FC6oTtQkpc2SrS6SfIUgP2TNjuhHJ5bl0FTSg2kA7kB2VzGbHl5mWK2WJabEC9X262XNR81fNvze2XRYUnW6AWt01dvfniYA682fx8LN2uFP82gc13NRyz3x2iew2Lx9ZJF2kNSN6Oyk8Y2l0XxIx4CGS2nhSs2kH7zi2oBSho399mA2ovPcIiS9g72pQcaV2yWfI01lHhpYizkl2sssMym9Le82uslLXBDJnn2zXOHzZiuB132IoXDfm92X35YzlFKVOtN36pk4Exslds3AM66JxlbHf3AixCaffNiz3CaeCETF1jw3D4BJTYw8683F1y20VhzUt0K9lXYpxzfh3Fa1K4yvcwB0KNSfi958ES3II1gOFzTdP3J01kMBGfra0KVtkGRFgof3KDiqgXC9uz3N4Xxgfl6Zi3OL3JtaZVlU3RiVUsDrEn53SxizXdkA1v0LVhq7swG0z3Y5stTak7jW3Zddu2JR0Kp3eIl04ieZKG3hIFa7eT4V63hcofCxP2FE3iFY2WOjoH53lcb7hj6A2N3lfo2gepDUY3nCuDyh48in3otfEW2Etui3phOfNnWDJk3tZ7MXhqNFB3tmNpJ6024K3wEafKBECNE3wgBddTO1CO3xTxPKGh02E3xv7338Cu6F404Jj5Xcpuw40LyELY5Pgm40nHRLO86Wt42hgrADBP970PCXSIHoR6v45PE3m1T9wG48tOO1GkOqI4AGmR4rw2v04Crff9unt0Q0QAXA8aFADH4E7sqTGyUJc4FfQgxz8Ek34FtmJJ4G6ct4G8d3TrJzyn4G9BFZ4AQFZ4IoNN7MpE9l4Iz6qj9hhgH0QrJp4NtFbv4MpMtx14mmO4Ou6iyAmhZi4QKSC6iEKJG4QizIsilJWS4TW5MNLSEMO4UzDgBPqDBx4UznSWHOepB0RzmfgEYtHD0SAj7WB1bP34bjHLfNOsQy4etZgSHRzAj4jdU6E8iSuK4k9JIKzBA9s4l2G9RAVSz94lPKiq4wVZD4oGwaxA0Kjj4oyeISjq7BA4ppqxmkohHC4r6zr7Gidu44rUzdiWTn6w4reLBlgqq9o4sZhGw2pcn24t3s1EjWHBg4tPLFQr5Zhu4ttlmrPRFRh4uKfQrP94pL4uUZdNmwMRh4uiKvPSV43O4vEZMiKM7UP4wVKZgt3jJh0UeMJviwJQn4x7I68TCWOs0UiJkaAzvyo4xIcAV5i5xC4xbzp52huz94xtEEv3Sv5R4zaCZkL2sss52XD7iAsG0f536zvJqqfy5577dCV9BOyf58U9a5uFfTn5A4rmdN8yyU0W9xU9IRzhI5ChKEL8ifVU5DnJ0qiQnFf5GpFrR50bh85HTPuLDiVH15HpGlpuReCj5KfAng4w0GS5PvBKBryPhX5QJ1IIi91h95QQDMYBxt7J5U6fj80slVK5XRMe0SP99F5ZQE5YcWnck5aKMuYZkdFG5bOplK6gjop03UKXIs9xjl0ZIWoQmJXEO5iZlVBdyKoR5ne1PkuEnyT5nn6RrwfKrR0aCZNvk57cx5qAPJHJWDAl5r768gpl39W5rRb57sLMKm03dbnx9HFMG5ryxTZjBy9l5rzGUBJDRdw5st1I0iBKIK5uyhXc9V0dV5vn6nG9sHBK5wlMmcAsevg5xSSTwdNE1T5xYEZed7V8Z62Xam2ojNTE0bbrgxtO1bR671BYk1eV4167TqOeYpROY67j8LWjX1hE67m9eyTJSlF68QL271hZ5Y69D1lPjeM6T69zzpc3bysF6AyZVwqTEK36CkxSTNwX2E6DRJSjbwOax6FbDWmpskR46HsBZoZSed16KbZTj4tlPd6MV6RkKqnai0dzK87eriz16S43xLH0Zgr6YdMPTZQA2Y6Z5uG4NoAlQ6Zll91ornYw6b6y10kVlJj6cOgYXinIYb0fBwf3NStWh6gdI6zlMAjQ6hn6gcb6f1K6i13us8IlGV6ifhcDaZmrA6kd3haWFU806l8Fd5qrVwl6np2c6sOWLG6oUplosuZhj6tNvQrRkX8g70zX4UkXkvU75nLiOISiln75xkgOn8Y7m75zP5TwDDW37GwfL6Lfspf7H36CPdnH8H7IPkSvYOE2O7IicOoozqnU7KynbVzraub7Nlpy1O1Pb77P3pZHwNbWk7PveU2E3obK7UB6ln4dtB97UsyrE0ar5d7VN3ztmbvRm7WKY3aodcSG7WUfCMc3kw80khCvdXnGkv7XUJ12fuOK97XUoX7Ue2TA0kkyS5X35d87Zcjj1pWlNM7bfSRxINn057cBwQE2WAHH7hoJPTNCe6e7jvzutnl2yf0m2QITFnVpM7mE4gIIH3U37mOF5NdM9EH0merJyVvTPh7quCsCxoTec7tnluomJqCB7vIeQHethyZ813RYHmIV8R81tS2rfdZQQ82S0MSexPds83Y7yCZeEW784KFmBYwHhy8Aq4hX8PSf78Eoc4C32MR58F9BpNL2ryZ8FXvDSBYqiE8Fa6DD4EbOR8IlJZ6zFQ2u8J5n5Rg4m4m8KgN6UmEPYB0prG9WOHxWq8MoLK8Dfmq08NqOmwuPDXe8TwA9oUd5mk8Vxj0xO5tZo8YGLAztNFOh8Z5WkeLN3Dc0rAf4mP6LO58b5ebL9SOYv8bXw3kkWPXH8c6AL5tLqq48dDEQNpbdQA8ftAj8Iswfg8gahr8xg8q98hSEmiJt7WJ8mzH3H3bOwB8oAUWqwZtJH8rJTWichJIx8urA4ARrlMd8zAAY3xeXt08zKigTwa6RD0ttsFwHLni991tBRDKSedH92wIio95fhw93wcqweXEf30ucurV0k9fG99uZ0soupqk9DNTnqWvU2H9E5wXewgC179EYIRY2vJS19F6tnqPTTD19Fqu8LqVFhb9JEqerbcFKn9NJpMHb7cHB9PLFYRZfS4u9PnI20sRKOp9Pp9nyLeD9y9S8hJPTsRrD0xgdM4MvUHs9fAO8cVp6Jy0ySGmG2aJhd9koPIxcXquL9omwWlbkXFc9sO87MWPekD9tNMmk9PHD99wRZJVKOUBt9yuHz9qplqZA1EhIzKTg6QA2rywbBFZt3A3pNLE46OYB10Vn8RJ45tcADo2GPoGNaYAEq969rwFVRAF98uNdOX6CAJVp5vyIsFoAJjTWF1tDSuAJxTpR8p2S9AK1KZtnmHYVAKlMoh4tTP4AKoJWNKjD1TAL3NuslFLC0ANQwRqpm13OANqsgR9xCMnAQRSooUQ4wzAQrmOLRJIFyAUar1rzpQn0AUdFY878SLMAWeHzGGuEYPAY4K5udeocrAYrMJhRyLnp13b6SdbfJdq13fg4ZvKfYlAcjNDhqmirWAdklHLXEQftAhEBGL1kJpwAhJwqk5jK3LAijE1FEdzOrAnTqllNExlwAp8oUWHKt1JAqpeQZcZrDoAscZbyG1LvfAsjIYeynms4AwpAH5BIOmkAx6Bss8DKqoAy2zhxTph7vAyAcMFHjVNAAyBcyCUYaAvB1xbka2oRQNB5VsrdyLeTjB7m2Afhso9HB81PwsErAVNB96GHO76FX417CU4QRnBvvBBgBm1ZdkjgBC6hIj94Z6QBCo1yL3joWaBDbSbAClq6ZBEJBleN3rRDBEbDUiqykBdBF2NuAadKbKBM8eyDTYGKoBMVQoSBKAImBNmZXGQvRRp18hrsdOfoldBP8upNWNn2BBR0TcyL33GEBTGpNS2I8vaBU6fLPLFrk5BUq1zCHnB6MBXYAqTSJBo9Ba9YIE0BHzDBbDfFu3XR4TBbrIwHFATpWBcXdggw8HdvBeEUTREIJ4I1AKxHYTOep0BgoEHroU3jSBhRPst5IbBO07H3jsrwNFJBmFTlaHLQrG1B2cAzMVPQcBpKSHOzJjarBpWvAVFwkgbBqGVPygtRZVBqv7zA9ITwJBrNxTEJSnC7BsLT5HGPH3LBtVmnLNrp9g"
end PySem.W.Fast
open Lean in
local macro_rules
 | `($m:declModifiers $d:definition) => do
  unless m.raw[4].isNone do Macro.throwUnsupported
  return mkNode `Lean.Parser.Command.declaration #[m.raw.setArg 4 (mkNullNode #[mkNode `Lean.Parser.Command.noncomputable #[mkAtom "noncomputable"]]), d]
noncomputable section
section
namespace Hk
open PySem PySem.W
theorem chs {α β:Type}{f:β→α}{l:List β}{γ:Type}{g:γ→α}{l2:List γ}{n m k:Nat} (h1:((l.drop n).take m).map f=((l2.drop n).take m).map g) (hk:n+m=k) (h2:(l.drop k).map f=(l2.drop k).map g):(l.drop n).map f=(l2.drop n).map g:=by
  subst hk
  rw [← List.take_append_drop m (l.drop n),← List.take_append_drop m (l2.drop n),List.map_append,List.map_append,h1,List.drop_drop,List.drop_drop,h2]
theorem ch {K:Params→Frag}{as:List Addr} (e:∀ P,as=(K P).map (·.1)) (w:World) (s:Shared) (x:((((((as.drop 0).take 64).map s.heap.get?,((as.drop 64).take 64).map s.heap.get?),(((as.drop 128).take 64).map s.heap.get?,((as.drop 192).take 64).map s.heap.get?)),((((as.drop 256).take 64).map s.heap.get?,((as.drop 320).take 64).map s.heap.get?),(((as.drop 384).take 64).map s.heap.get?,((as.drop 448).take 64).map s.heap.get?))),(((((as.drop 512).take 64).map s.heap.get?,((as.drop 576).take 64).map s.heap.get?),(((as.drop 640).take 64).map s.heap.get?,((as.drop 704).take 64).map s.heap.get?)),((((as.drop 768).take 64).map s.heap.get?,((as.drop 832).take 64).map s.heap.get?),(((as.drop 896).take 64).map s.heap.get?,(as.drop 960).map s.heap.get?))))=(((((((K w.params).drop 0).take 64).map (fun p=>some p.2),(((K w.params).drop 64).take 64).map (fun p=>some p.2)),((((K w.params).drop 128).take 64).map (fun p=>some p.2),(((K w.params).drop 192).take 64).map (fun p=>some p.2))),(((((K w.params).drop 256).take 64).map (fun p=>some p.2),(((K w.params).drop 320).take 64).map (fun p=>some p.2)),((((K w.params).drop 384).take 64).map (fun p=>some p.2),(((K w.params).drop 448).take 64).map (fun p=>some p.2)))),((((((K w.params).drop 512).take 64).map (fun p=>some p.2),(((K w.params).drop 576).take 64).map (fun p=>some p.2)),((((K w.params).drop 640).take 64).map (fun p=>some p.2),(((K w.params).drop 704).take 64).map (fun p=>some p.2))),(((((K w.params).drop 768).take 64).map (fun p=>some p.2),(((K w.params).drop 832).take 64).map (fun p=>some p.2)),((((K w.params).drop 896).take 64).map (fun p=>some p.2),((K w.params).drop 960).map (fun p=>some p.2)))))):InK K w s.heap:=by
  simp only [Prod.mk.injEq] at x
  obtain⟨⟨⟨⟨x0,x1⟩,⟨x2,x3⟩⟩,⟨⟨x4,x5⟩,⟨x6,x7⟩⟩⟩,⟨⟨⟨x8,x9⟩,⟨x10,x11⟩⟩,⟨⟨x12,x13⟩,⟨x14,x15⟩⟩⟩⟩:=x
  have y15:=x15
  have y14:=chs x14 (by decide) y15
  have y13:=chs x13 (by decide) y14
  have y12:=chs x12 (by decide) y13
  have y11:=chs x11 (by decide) y12
  have y10:=chs x10 (by decide) y11
  have y9:=chs x9 (by decide) y10
  have y8:=chs x8 (by decide) y9
  have y7:=chs x7 (by decide) y8
  have y6:=chs x6 (by decide) y7
  have y5:=chs x5 (by decide) y6
  have y4:=chs x4 (by decide) y5
  have y3:=chs x3 (by decide) y4
  have y2:=chs x2 (by decide) y3
  have y1:=chs x1 (by decide) y2
  have y0:=chs x0 (by decide) y1
  exact InK.of e w s y0
end Hk
open Lean in
local macro_rules
  | `($f:ident $h:term)=>do
    let n:=f.getId.eraseMacroScopes
    unless n == `Hook.obs || n == `Hook.val || n == `Hook.of do Macro.throwUnsupported
    match h with
    | `(($g:ident $k $a $e)) =>
      unless g.getId.eraseMacroScopes == `kHook do Macro.throwUnsupported
      if n == `Hook.obs then `(fun (s:PySem.Shared)=>((((((($a).drop 0).take 64).map s.heap.get?,((($a).drop 64).take 64).map s.heap.get?),(((($a).drop 128).take 64).map s.heap.get?,((($a).drop 192).take 64).map s.heap.get?)),((((($a).drop 256).take 64).map s.heap.get?,((($a).drop 320).take 64).map s.heap.get?),(((($a).drop 384).take 64).map s.heap.get?,((($a).drop 448).take 64).map s.heap.get?))),(((((($a).drop 512).take 64).map s.heap.get?,((($a).drop 576).take 64).map s.heap.get?),(((($a).drop 640).take 64).map s.heap.get?,((($a).drop 704).take 64).map s.heap.get?)),((((($a).drop 768).take 64).map s.heap.get?,((($a).drop 832).take 64).map s.heap.get?),(((($a).drop 896).take 64).map s.heap.get?,(($a).drop 960).map s.heap.get?)))))
      else if n == `Hook.val then `(fun (w:PySem.World)=>(((((((($k) w.params).drop 0).take 64).map (fun p=>some p.2),(((($k) w.params).drop 64).take 64).map (fun p=>some p.2)),((((($k) w.params).drop 128).take 64).map (fun p=>some p.2),(((($k) w.params).drop 192).take 64).map (fun p=>some p.2))),(((((($k) w.params).drop 256).take 64).map (fun p=>some p.2),(((($k) w.params).drop 320).take 64).map (fun p=>some p.2)),((((($k) w.params).drop 384).take 64).map (fun p=>some p.2),(((($k) w.params).drop 448).take 64).map (fun p=>some p.2)))),((((((($k) w.params).drop 512).take 64).map (fun p=>some p.2),(((($k) w.params).drop 576).take 64).map (fun p=>some p.2)),((((($k) w.params).drop 640).take 64).map (fun p=>some p.2),(((($k) w.params).drop 704).take 64).map (fun p=>some p.2))),(((((($k) w.params).drop 768).take 64).map (fun p=>some p.2),(((($k) w.params).drop 832).take 64).map (fun p=>some p.2)),((((($k) w.params).drop 896).take 64).map (fun p=>some p.2),((($k) w.params).drop 960).map (fun p=>some p.2))))))
      else `(Hk.ch (K:=$k) (as:=$a) $e)
    | _=>Macro.throwUnsupported
open PySem PySem.W PyProof.Rows
set_option maxHeartbeats 0 in
open_top PySem.Challenge.hd37 for PySem.Challenge.rw_askpaper_k37_sayings_checks_and_ways
end
namespace L2
open PySem PySem.Spec PyProof.Rows
abbrev Key:=Sum Int Str
def qt:Key→Value→Bool
 | .inl k,v=>Value.isInt k v
 | .inr x,v=>Value.isStrOf x v
def Vj (w:World):Key→Int
 | .inl k=>hashInt k
 | .inr x=>hashStr w x
theorem yB:∀ {k:Key}{v:Value},qt k v=true→(∃ i t,k=Sum.inl i∧v=Value.int i t)∨(∃ x t,k=Sum.inr x∧v=Value.str x t)
 | .inl i,v,h=>by
   obtain⟨t,e⟩:=Value.isInt_shape (k:=i) (v:=v) h
   exact .inl ⟨i,t,rfl,e⟩
 | .inr x,v,h=>by
   obtain⟨t,e⟩:=Value.isStrOf_shape (x:=x) (v:=v) h
   exact .inr ⟨x,t,rfl,e⟩
theorem GR (i:Int) (t:Tok):qt (.inl i) (.int i t)=true:=by simp [qt,Value.isInt]
theorem GX (x:Str) (t:Tok):qt (.inr x) (.str x t)=true:=by simp [qt,Value.isStrOf]
theorem Qw (a b:Int):decide ((Sum.inl a:Key)=Sum.inl b)=(a == b):=by
 by_cases e:a=b
 · subst e;simp
 · have h:¬ (Sum.inl a:Key)=Sum.inl b:=fun q=>e (Sum.inl.inj q)
   rw [decide_eq_false h]
   exact (beq_eq_false_iff_ne.mpr e).symm
theorem Qx (a b:Str):decide ((Sum.inr a:Key)=Sum.inr b)=decide (a=b):=by
 by_cases e:a=b
 · subst e;simp
 · have h:¬ (Sum.inr a:Key)=Sum.inr b:=fun q=>e (Sum.inr.inj q)
   rw [decide_eq_false h,decide_eq_false e]
theorem Qy (a:Int) (b:Str):decide ((Sum.inl a:Key)=Sum.inr b)=false:=decide_eq_false (fun q=>nomatch q)
theorem Qz (a:Str) (b:Int):decide ((Sum.inr a:Key)=Sum.inl b)=false:=decide_eq_false (fun q=>nomatch q)
def aO (prog:Program) (w:World):PySem.KeyKind prog w Key where
 is:=qt
 hash:=Vj w
 inj:=fun v a b ha hb=>by
   rcases yB ha with ⟨i,t,rfl,rfl⟩ | ⟨x,t,rfl,rfl⟩
   · rcases yB hb with ⟨j,u,rfl,e⟩ | ⟨y,u,rfl,e⟩
     · injection e with e1 _;rw [e1]
     · exact nomatch e
   · rcases yB hb with ⟨j,u,rfl,e⟩ | ⟨y,u,rfl,e⟩
     · exact nomatch e
     · injection e with e1 _;rw [e1]
 byValue:=fun k v h=>by
   rcases yB h with ⟨i,t,rfl,rfl⟩ | ⟨x,t,rfl,rfl⟩ <;> rfl
 pyHash:=fun hv h=>by
   rcases yB hv with ⟨i,t,rfl,rfl⟩ | ⟨x,t,rfl,rfl⟩
   · exact wpAny_pyHash_int h
   · exact wpAny_pyHash_str h
 eqBool:=fun hu hv h=>by
   rcases yB hu with ⟨i,t,rfl,rfl⟩ | ⟨x,t,rfl,rfl⟩
   · rcases yB hv with ⟨j,u,rfl,rfl⟩ | ⟨y,u,rfl,rfl⟩
     · rw [Qw] at h;exact wpAny_eqBool_int h
     · rw [Qy] at h;exact SeqAt.EqAt.int_str i t y u _ _ _ _ h
   · rcases yB hv with ⟨j,u,rfl,rfl⟩ | ⟨y,u,rfl,rfl⟩
     · rw [Qz] at h;exact SeqAt.EqAt.str_int x t j u _ _ _ _ h
     · rw [Qx] at h;exact wpAny_eqBool_str h
 «strs»:=fun k x t v h=>by
   rcases yB h with ⟨i,u,rfl,e⟩ | ⟨y,u,rfl,e⟩
   · exact nomatch e
   · injection e with e1 _
     subst e1
     cases v <;> rfl
theorem Dr (prog:Program) (w:World) (k:Key) (v:Value):(aO prog w).is k v=qt k v:=rfl
theorem Ba (prog:Program) (w:World) (i:Int) (t:Tok):(aO prog w).is (.inl i) (.int i t)=true:=GR i t
theorem Bb (prog:Program) (w:World) (x:Str) (t:Tok):(aO prog w).is (.inr x) (.str x t)=true:=GX x t
end L2
namespace L2
open PySem PySem.Spec PyProof.Rows
inductive V where
 | non | bl (b:Bool) | int (i:Int) | str (x:Str) | Gb (b:Array UInt8) | flt (b:UInt64) | ref (a:Addr) | ty (n:String)
 deriving DecidableEq
def RelV:V→Value→Prop
 | .non,u=>u=Value.none
 | .bl b,u=>u=Value.bool b
 | .int i,u=>∃ t,u=Value.int i t
 | .str x,u=>∃ t,u=Value.str x t
 | .Gb b,u=>∃ t,u=Value.bytes b t
 | .flt b,u=>∃ t,u=Value.float b t
 | .ref a,u=>u=Value.ref a
 | .ty n,u=>u=Value.type n
abbrev Vals:List V→List Value→Prop:=Paired RelV
theorem Vals.length {xs:List V}{us:List Value} (r:Vals xs us):xs.length=us.length:=Paired.length r
theorem Vals.get:∀ {xs:List V}{us:List Value}{i:Nat}{x:V},Vals xs us→xs[i]? = some x→∃ u,us[i]? = some u∧RelV x u
 | _,_,_,_,.nil,e=>by simp at e
 | _,_,0,_,.cons r _,e=>by simp at e;subst e;exact⟨_,rfl,r⟩
 | _,_,i+1,x,.cons _ t,e=>by
   obtain⟨u,h1,h2⟩:=Vals.get (i:=i) (x:=x) t (by simpa using e)
   exact⟨u,by simpa using h1,h2⟩
theorem Vals.set {x:V}{u:Value} (r:RelV x u):∀ {xs:List V}{us:List Value} (i:Nat),Vals xs us→Vals (xs.set i x) (us.set i u)
 | _,_,_,.nil=>.nil
 | _,_,0,.cons _ t=>.cons r t
 | _,_,i+1,.cons q t=>.cons q (Vals.set r i t)
theorem Vals.append:∀ {xs ys:List V}{us ws:List Value},Vals xs us→Vals ys ws→Vals (xs++ys) (us++ws)
 | _,_,_,_,.nil,s=>s
 | _,_,_,_,.cons r t,s=>.cons r (Vals.append t s)
theorem Vals.take:∀ {xs:List V}{us:List Value} (n:Nat),Vals xs us→Vals (xs.take n) (us.take n)
 | _,_,0,_=>.nil
 | _,_,_+1,.nil=>.nil
 | _,_,n+1,.cons r t=>.cons r (Vals.take n t)
theorem Vals.drop:∀ {xs:List V}{us:List Value} (n:Nat),Vals xs us→Vals (xs.drop n) (us.drop n)
 | _,_,0,r=>r
 | _,_,_+1,.nil=>.nil
 | _,_,n+1,.cons _ t=>Vals.drop n t
theorem Vals.none_of:∀ {xs:List V}{us:List Value}{i:Nat},Vals xs us→xs[i]? = none→us[i]? = none:=fun {xs us i} r e=>by
 have h1:=r.length
 have h2:xs.length≤i:=List.getElem?_eq_none_iff.mp e
 exact List.getElem?_eq_none_iff.mpr (by omega)
def mL:Option V→Option Value→Prop
 | some v,some u=>RelV v u
 | none,none=>True
 | _,_=>False
def KV {κ:Type}:List (κ × V)→List (κ × Value)→Prop:=Paired fun (p:κ × V) (q:κ × Value)=>p.1=q.1∧RelV p.2 q.2
def kV:Key→V
 | .inl i=>.int i
 | .inr x=>.str x
inductive HO where
 | lst (xs:List V)
 | tup (xs:List V)
 | dK (kvs:List (Key × V)) | dT (kvs:List (List Key × V))
 | set (S:Int→Bool) (n:Nat)
 | ins (C dx:Addr) (fs:List (Str × V))
 | own (x:Addr)
 | xd (fs:List (Str × V))
 | met (f x:Addr)
 | rng (lo hi:Int)
 | ji (o:Obj) (u:HO)
 | qp (ps:Array Value)
 | ext (φ:Heap→Prop)
abbrev Hp:=Addr→Option HO
def upd (H:Hp) (a:Addr) (o:HO):Hp:=fun b=>if b=a then some o else H b
theorem zB {H:Hp}{a:Addr}{o:HO}:upd H a o a=some o:=by unfold upd;rw [if_pos rfl]
theorem zG {H:Hp}{a b:Addr}{o:HO} (h:b≠a):upd H a o b=H b:=by unfold upd;rw [if_neg h]
theorem yQ {H:Hp}{a:Addr}{o u:HO}:upd (upd H a o) a u=upd H a u:=by
 funext b;unfold upd;split <;> rfl
theorem yL {H:Hp}{a b:Addr}{o u:HO} (h:H a=some o) (h':H b=some u) (d:o≠u):a≠b:=by
 intro e;subst e;rw [h] at h';exact d (Option.some.inj h')
theorem zC {H:Hp}{a b:Addr}{o:HO} (h:H a=some o) (h':H b=none):a≠b:=by
 intro e;subst e;rw [h] at h';cases h'
section
variable (P:Program) (w:World)
def bC (H:Hp) (h:Heap) (a:Addr):HO→Prop
 | .lst xs=>xs.length≤sizeLine∧∃ (its:List Value) (n:Nat),Vals xs its∧h.get? a=some { cls:=.type "list",data:=.seq its.toArray n }
 | .tup xs=>xs.length≤sizeLine∧∃ its:List Value,Vals xs its∧IsTup h a its.toArray
 | .dK kvs=>kvs.length≤sizeLine∧(a == sysModules)=false∧∃ vs,KV kvs vs∧h.DictOf (aO P w) a vs
 | .dT kvs=>kvs.length≤sizeLine∧(a == sysModules)=false∧∃ xs:List (List Key × Addr × Value),
     Paired (fun (p:List Key × V) (q:List Key × Addr × Value)=>p.1=q.1∧H q.2.1=some (.tup (p.1.map kV))∧RelV p.2 q.2.2) kvs xs ∧
     ∃ o es ep,h.get? a=some o∧o.ExactDict∧o.data=.dict es ep∧es.toList=xs.map (entryOfKey (tupleKind (aO P w)))∧(xs.map (·.1)).Nodup
 | .set S n=>h.SetOf (intKind P w) a S n
 | .ins C dx fs=>H dx=some (.own a)∧fs.length≤1000∧dx≠a∧h.get? a=some (PySem.W.instObj C dx) ∧
     ∃ mA,h.Ns1 dx mA∧(∀ f,mL (fs.lookup f) (mA f))∧PySem.Within mA (fs.map (·.1))
 | .own _=>∃ o,h.get? a=some o
 | .xd fs=>∃ mA,h.Ns1 a mA∧∀ f,mL (fs.lookup f) (mA f)
 | .rng lo hi=>∃ t u v,h.get? a=some { cls:=.type "range",data:=.fields #[.int lo t,.int hi u,.int 1 v] }
 | .ji o u=>h.get? a=some o∧bC H h a u
 | .qp ps=>∃ ts:Array Value,h.get? a=some { cls:=.none,data:=.fields ts }∧((ts=#[]∧∃ q ln cl,ps=#[.str q 0,ln,cl]) ∨
     ∃ q ln cl c',ts=#[ln,cl,.ref c']∧(ps=#[.str q 0,ln,cl]∨ps=#[.str q 0,ln,cl,.ref c'])∧H c'=some (.own a)∧h.CodeRec (.ref c') q)
 | .met f x=>h.get? a=some (PySem.W.methodObj (.ref f) (.ref x))
 | .ext φ=>φ h∧(∃ o,h.get? a=some o)∧∀ h1 h2:Heap,φ h1→(∀ o,h1.get? a=some o→h2.get? a=some o)→φ h2
def mW (H:Hp) (h:Heap):Prop:=∀ a o,H a=some o→bC P w H h a o
end
section
variable {P:Program}{w:World}{H H':Hp}{h h':Heap}{a:Addr}{o:HO}
theorem bC.lt (x:bC P w H h a o):a<h.objs.size:=by
 cases o with
 | lst xs=>obtain⟨_,_,_,_,e⟩:=x;exact Heap.lt_size e
 | tup xs=>obtain⟨_,_,_,p⟩:=x;exact p.lt
 | dK kvs=>obtain⟨_,_,_,_,o,_,_,e,_⟩:=x;exact Heap.lt_size e
 | dT kvs=>obtain⟨_,_,_,_,o,_,_,e,_⟩:=x;exact Heap.lt_size e
 | set S n=>obtain⟨o,_,_,_,e,_⟩:=x;exact Heap.lt_size e
 | ins C dx fs=>obtain⟨_,_,_,e,_⟩:=x;exact Heap.lt_size e
 | own y=>obtain⟨_,e⟩:=x;exact Heap.lt_size e
 | xd fs=>obtain⟨_,⟨_,_,_,e,_⟩,_⟩:=x;exact Heap.lt_size e
 | rng lo hi=>obtain⟨_,_,_,e⟩:=x;exact Heap.lt_size e
 | ji ob u=>obtain⟨e,_⟩:=x;exact Heap.lt_size e
 | qp ps=>obtain⟨_,e,_⟩:=x;exact Heap.lt_size e
 | met f y=>exact Heap.lt_size (show h.get? a=some _ from x)
 | ext φ=>obtain⟨_,⟨_,e⟩,_⟩:=x;exact Heap.lt_size e
theorem Paired.Mr {α β:Type}{F G:α→β→Prop}:∀ {l₁:List α}{l₂:List β},Paired F l₁ l₂→(∀ a b,F a b→G a b)→Paired G l₁ l₂
 | _,_,.nil,_=>.nil
 | _,_,.cons r t,f=>.cons (f _ _ r) (Paired.Mr t f)
theorem bC.stay (x:bC P w H h a o) (k:∀ b u,(b=a∨H b=some (.own a))→h.get? b=some u→h'.get? b=some u)
   (ho:∀ b,H b=some (.own a)→H' b=some (.own a)) (ht:∀ b xs,H b=some (.tup xs)→H' b=some (.tup xs)):bC P w H' h' a o:=by
 induction o with
 | lst xs=>obtain⟨z,its,n,r,e⟩:=x;exact⟨z,its,n,r,k _ _ (.inl rfl) e⟩
 | tup xs=>obtain⟨z,its,r,ob,e,c⟩:=x;exact⟨z,its,r,ob,k _ _ (.inl rfl) e,c⟩
 | dK kvs=>obtain⟨z,y,vs,r,ob,es,ep,e,c⟩:=x;exact⟨z,y,vs,r,ob,es,ep,k _ _ (.inl rfl) e,c⟩
 | dT kvs =>
   obtain⟨z,y,xs,r,ob,es,ep,e,c⟩:=x
   exact⟨z,y,xs,Paired.Mr r fun p q z=>⟨z.1,ht _ _ z.2.1,z.2.2⟩,ob,es,ep,k _ _ (.inl rfl) e,c⟩
 | set S n=>obtain⟨ob,es,ep,t,e,c⟩:=x;exact⟨ob,es,ep,t,k _ _ (.inl rfl) e,c⟩
 | ins C dx fs =>
   obtain⟨d,z,ne,e,mA,⟨od,es,ep,e2,c⟩,r⟩:=x
   exact⟨ho _ d,z,ne,k _ _ (.inl rfl) e,mA,⟨od,es,ep,k _ _ (.inr d) e2,c⟩,r⟩
 | own y=>obtain⟨ob,e⟩:=x;exact⟨ob,k _ _ (.inl rfl) e⟩
 | xd fs=>obtain⟨mA,⟨od,es,ep,e,c⟩,r⟩:=x;exact⟨mA,⟨od,es,ep,k _ _ (.inl rfl) e,c⟩,r⟩
 | rng lo hi=>obtain⟨t,u,v,e⟩:=x;exact⟨t,u,v,k _ _ (.inl rfl) e⟩
 | ji ob u ih=>obtain⟨e,q⟩:=x;exact⟨k _ _ (.inl rfl) e,ih q⟩
 | qp ps =>
   obtain⟨ts,e,d⟩:=x
   refine⟨ts,k a _ (.inl rfl) e,?_⟩
   rcases d with d | ⟨q,ln,cl,c',e1,e2,e3,c2,o,vs,t,e4,e5,e6⟩
   · exact .inl d
   · cases e4
     exact .inr ⟨q,ln,cl,c',e1,e2,ho _ e3,c',o,vs,t,rfl,k _ _ (.inr e3) e5,e6⟩
 | met f y =>
   have e:h.get? a=some (PySem.W.methodObj (.ref f) (.ref y)):=x
   show h'.get? a=some (PySem.W.methodObj (.ref f) (.ref y))
   exact k a _ (.inl rfl) e
 | ext φ=>obtain⟨p,⟨o,e⟩,st⟩:=x;exact⟨st _ _ p fun o q=>k _ _ (.inl rfl) q,⟨o,k _ _ (.inl rfl) e⟩,st⟩
theorem mW.lt (x:mW P w H h) (e:H a=some o):a<h.objs.size:=(x a o e).lt
theorem mW.fresh (x:mW P w H h) (e:h.objs.size≤a):H a=none:=by
 cases q:H a with
 | none=>rfl
 | some u=>exact absurd (Nat.lt_of_lt_of_le (x.lt q) e) (Nat.lt_irrefl _)
theorem mW.kept (x:mW P w H h) (k:∀ b u,h.get? b=some u→h'.get? b=some u):mW P w H h':=fun a o e =>
 (x a o e).stay (fun b u _ q=>k b u q) (fun _ q=>q) fun _ _ q=>q
theorem mW.laid (x:mW P w H h) (k:∀ b u,h.get? b=some u→h'.get? b=some u) (hp:h.objs.size≤a) (new:bC P w (upd H a o) h' a o):mW P w (upd H a o) h':=fun b u e=>by
 have hn:=x.fresh hp
 by_cases hb:b=a
 · subst hb;rw [zB] at e;cases e;exact new
 · rw [zG hb] at e
   exact (x b u e).stay (fun c v _ q=>k c v q) (fun c q=>by rw [zG (zC q hn)];exact q) fun c xs q=>by rw [zG (zC q hn)];exact q
end
def Rd (H:Hp) (a:Addr) (u:HO):Prop:=H a=some u∨∃ o,H a=some (.ji o u)
theorem Rd.of {H:Hp}{a:Addr}{u:HO} (h:H a=some u):Rd H a u:=.inl h
theorem Rd.ok {P:Program}{w:World}{H:Hp}{h:Heap}{a:Addr}{u:HO} (r:Rd H a u) (x:mW P w H h):bC P w H h a u:=by
 rcases r with r | ⟨o,r⟩
 · exact x a u r
 · obtain⟨_,q⟩:=x a _ r
   exact q
def Vk:Option HO→Prop
 | some (.lst _)=>True
 | some (.dK _)=>True
 | some (.dT _)=>True
 | some (.set _ _)=>True
 | some (.ins _ _ _)=>True
 | some (.ext _)=>True
 | _=>False
section
variable {P:Program}{w:World}{H:Hp}{h h':Heap}{x e:Addr}{o':HO}
theorem mW.write (ok:mW P w H h) (mu:Vk (H x)) (he:e=x∨H e=some (.own x)) (k:∀ b u,b≠e→h.get? b=some u→h'.get? b=some u) (heo:∃ u,h'.get? e=some u)
   (new:bC P w (upd H x o') h' x o'):mW P w (upd H x o') h':=fun b u q=>by
 have Vl:∀ c y,H c=some (.own y)→c≠x:=fun c y r z=>by subst z;rw [r] at mu;exact mu
 have aet:∀ c xs,H c=some (.tup xs)→c≠x:=fun c xs r z=>by subst z;rw [r] at mu;exact mu
 by_cases hb:b=x
 · subst hb;rw [zB] at q;cases q;exact new
 · rw [zG hb] at q
   by_cases hbe:b=e
   · have q':H b=some (.own x):=by
       rcases he with z | z
       · exact absurd (hbe.trans z) hb
       · rw [hbe];exact z
     rw [q] at q';cases q'
     obtain⟨v,hv⟩:=heo
     exact⟨v,by rw [hbe];exact hv⟩
   · refine (ok b u q).stay (fun c v hc r=>k c v ?_ r) (fun c r=>by rw [zG (Vl c b r)];exact r) fun c xs r=>by rw [zG (aet c xs r)];exact r
     rcases hc with rfl | hc
     · exact hbe
     · rintro rfl
       rcases he with z | z
       · exact Vl c b hc z
       · rw [hc] at z;cases z;exact hb rfl
end
structure Un (fs ex:List Addr) (H H':Hp) (h h':Heap):Prop where
 keep:∀ b o,h.get? b=some o→H b=none→b∉fs→b∉ex→h'.get? b=some o
 slot:∀ b o,h.get? b=some o→H b=none→b∈fs→b∉ex→∃ sl,h'.get? b=some { o with slots:=sl }
 free:∀ b o,h.get? b=some o→H b=none→b∉ex→H' b=none
 there:∀ b o,h.get? b=some o→b∉ex→∃ o',h'.get? b=some o'
 tups:∀ b xs,H b=some (.tup xs)→H' b=some (.tup xs)
 jW:∀ b o u,H b=some (.ji o u)→H' b=some (.ji o u)
 j7:∀ b ps,H b=some (.qp ps)→∃ more,H' b=some (.qp (ps++more))
section
variable {fs fs' ex ex':List Addr}{H H1 H2:Hp}{h h1 h2 h':Heap}{a x e:Addr}{o:HO}
theorem Un.any (u:Un fs ex H H1 h h1) {b:Addr}{ob:Obj} (q:h.get? b=some ob) (n:H b=none) (hx:b∉ex):∃ sl,h1.get? b=some { ob with slots:=sl }:=by
 by_cases hb:b∈fs
 · exact u.slot b ob q n hb hx
 · exact⟨ob.slots,u.keep b ob q n hb hx⟩
theorem Un.trans (a:Un fs ex H H1 h h1) (b:Un fs ex H1 H2 h1 h2):Un fs ex H H2 h h2 where
 keep:=fun c ob q n hc hx=>b.keep c ob (a.keep c ob q n hc hx) (a.free c ob q n hx) hc hx
 slot:=fun c ob q n hc hx=>by
   obtain⟨sl,e1⟩:=a.slot c ob q n hc hx
   obtain⟨sl',e2⟩:=b.slot c _ e1 (a.free c ob q n hx) hc hx
   exact⟨sl',e2⟩
 free:=fun c ob q n hx=>by
   obtain⟨o',e1⟩:=a.there c ob q hx
   exact b.free c o' e1 (a.free c ob q n hx) hx
 there:=fun c ob q hx=>by
   obtain⟨o',e1⟩:=a.there c ob q hx
   exact b.there c o' e1 hx
 tups:=fun c xs q=>b.tups c xs (a.tups c xs q)
 jW:=fun c ob xs q=>b.jW c ob xs (a.jW c ob xs q)
 j7:=fun c ps q=>by
   obtain⟨m1,e1⟩:=a.j7 c ps q
   obtain⟨m2,e2⟩:=b.j7 c _ e1
   exact⟨m1++m2,by rw [e2,Array.append_assoc]⟩
theorem Un.kept (k:∀ b u,h.get? b=some u→h'.get? b=some u):Un fs ex H H h h' :=
 ⟨fun b ob q _ _ _=>k b ob q,fun b ob q _ _ _=>⟨ob.slots,k b ob q⟩,fun _ _ _ n _=>n,fun b ob q _=>⟨ob,k b ob q⟩,fun _ _ q=>q,fun _ _ _ q=>q,fun _ ps q=>⟨#[],by rw [q];simp⟩⟩
theorem Un.refl:Un fs ex H H h h:=Un.kept fun _ _ q=>q
theorem Un.laid (k:∀ b u,h.get? b=some u→h'.get? b=some u) (hp:h.objs.size≤a) (hn:H a=none):Un fs ex H (upd H a o) h h' where
 keep:=fun b u q _ _ _=>k b u q
 slot:=fun b u q _ _ _=>⟨u.slots,k b u q⟩
 free:=fun b u q n _=>by rw [zG (Nat.ne_of_lt (Nat.lt_of_lt_of_le (Heap.lt_size q) hp))];exact n
 there:=fun b u q _=>⟨u,k b u q⟩
 tups:=fun b xs q=>by rw [zG (zC q hn)];exact q
 jW:=fun b u xs q=>by rw [zG (zC q hn)];exact q
 j7:=fun b ps q=>⟨#[],by rw [zG (zC q hn),q];simp⟩
theorem Un.write (mu:Vk (H x)) (he:e=x∨H e=some (.own x)) (k:∀ b u,b≠e→h.get? b=some u→h'.get? b=some u) (heo:∃ u,h'.get? e=some u):Un fs ex H (upd H x o) h h':=by
 have hx:∀ b,H b=none→b≠x:=fun b n z=>by subst z;rw [n] at mu;exact mu
 have hb:∀ b,H b=none→b≠e:=fun b n z=>by
   subst z
   rcases he with r | r
   · exact hx b n r
   · rw [n] at r;cases r
 have hm:∀ b u,H b=some u→¬ Vk (some u)→b≠x:=fun b u q nm z=>by subst z;rw [q] at mu;exact nm mu
 refine⟨fun b u q n _ _=>k b u (hb b n) q,fun b u q n _ _=>⟨u.slots,k b u (hb b n) q⟩,fun b u q n _=>by rw [zG (hx b n)];exact n,fun b u q _=>?_,
   fun b xs q=>by rw [zG (hm b _ q fun z=>z)];exact q,fun b u xs q=>by rw [zG (hm b _ q fun z=>z)];exact q,fun b ps q=>⟨#[],by rw [zG (hm b _ q fun z=>z),q];simp⟩⟩
 by_cases hbe:b=e
 · subst hbe;exact heo
 · exact⟨u,k b u hbe q⟩
theorem Un.mono (u:Un fs ex H H1 h h1) (hs:∀ b∈fs,b∈fs') (hx:∀ b∈ex,b∈ex'):Un fs' ex' H H1 h h1 :=
 ⟨fun b ob q n hb he=>u.keep b ob q n (fun z=>hb (hs b z)) fun z=>he (hx b z),fun _ _ q n _ he=>u.any q n fun z=>he (hx _ z),fun b ob q n he=>u.free b ob q n fun z=>he (hx b z),fun b ob q he=>u.there b ob q fun z=>he (hx b z),u.tups,u.jW,u.j7⟩
end
def trk (h:Heap) (H:Hp):List Addr:=(List.range h.objs.size).filter fun a=>(H a).isSome
def wG (h:Heap) (H:Hp):Heap:=PySem.W.hideAll h (trk h H)
theorem GZ (h:Heap) (H:Hp):(wG h H).objs.size=h.objs.size:=PySem.W.hideAll_size _ _
theorem Iu {h:Heap}{H:Hp}{b:Addr}{o:Obj} (e:h.get? b=some o) (n:H b=none):(wG h H).get? b=some o :=
 PySem.W.hideAll_get _ e fun hm=>by
   have q:(H b).isSome=true:=(List.mem_filter.mp hm).2
   rw [n] at q;simp at q
theorem Ms {h:Heap}{H:Hp}{b:Addr}{o:Obj} (e:(wG h H).get? b=some o):h.get? b=some o∧H b=none:=by
 have e':h.get? b=some o:=PySem.W.of_hideAll (trk h H) e
 refine⟨e',?_⟩
 cases q:H b with
 | none=>rfl
 | some x =>
   have hm:b∈trk h H:=List.mem_filter.mpr ⟨List.mem_range.mpr (Heap.lt_size e'),by simp [q]⟩
   have z:(wG h H).get? b=none:=PySem.W.hideAll_none (trk h H) hm
   rw [z] at e;cases e
def Mt (g h:Heap) (L:Addr):List (Addr × Obj):=(List.range h.objs.size).filterMap fun a=>if a=L∨(g.get? a).isSome=true then none else (h.get? a).map fun o=>(a,o)
def rest (g h:Heap) (L d:Addr):List (Addr × Obj):=(Mt g h L).filter fun p=>decide (p.1≠d)
end L2
namespace L2
open PySem PySem.Spec PyProof.Rows
structure Mod (K:PySem.W.Frag) (mg:Str→Option Value) (base:Heap):Prop where
 Pu:K.In base
 glob:base.Ns mainGlobals mg
 blt:∃ mb,base.Ns builtinsNs mb∧∀ x:Str,x≠"__name__"→mb x=bootBuiltins x
 nolimit:base.NoLimit
structure Cx where
 prog:Program
 w:World
 K:PySem.W.Frag
 mg:Str→Option Value
 base:Heap
 A:Around
 N:List Str
 s₀:Shared
 H₀:Hp
 env:Env
 outer:List Env
 stack:List Env
 ex:List Addr
 fn:Str→Bool
 calm:Bool
 pn:List (Addr × Obj)
 xe:Value→Shared→Prop
def frs (l:List Env):List Addr:=l.filterMap (·.frame)
abbrev Cx.fs (X:Cx):List Addr:=frs X.outer
def Vis (sc:Scope) (x:Str):Prop:=sc.names.lookup x=some .local∨sc.names.lookup x=some .cell∨sc.names.lookup x=some .free
def Loc (sc:Scope) (x:Str):Prop:=sc.names.lookup x=some .local∨sc.names.lookup x=some .cell
def Look (env:Env) (h:Heap) (m:Str→Option Value) (x:Str) (u:Value):Prop :=
 (env.kindOf x=some .local∧m x=some u)∨((env.kindOf x=some .cell∨env.kindOf x=some .free)∧∃ c,env.cells.lookup x=some c∧h.IsCell c (some u))
structure Cx.Ok (X:Cx):Prop where
 mod:Mod X.K X.mg X.base
 kind:X.env.scope.kind=.function
 glob:X.env.globals=mainGlobals
 blt:X.env.builtins=builtinsNs
 above:X.s₀.heap.objs.size≤X.env.locals
 inj:∀ x y c,X.env.cells.lookup x=some c→X.env.cells.lookup y=some c→x=y
 has:∀ x,(X.env.kindOf x=some .cell∨X.env.kindOf x=some .free)→∃ c,X.env.cells.lookup x=some c
 cab:∀ x c,X.fn x=true→X.env.cells.lookup x=some c→X.s₀.heap.objs.size≤c
 hd:X.calm=true→X.A.handled=none
 frames:X.A.frames=some X.stack
 Vm:X.stack=X.outer∨(X.stack=X.env::X.outer∧X.env.frame=some X.env.locals)
 exf:∀ b∈X.ex,b≠X.env.locals∧∀ x c,X.env.cells.lookup x=some c→c≠b
 bs:∀ b o,X.base.get? b=some o→X.s₀.heap.get? b=some o∧X.H₀ b=none
 G8:X.base.objs.size≤X.s₀.heap.objs.size
 Iv:∀ b o,X.base.get? b=some o→b∉X.ex
 Mu:∀ b∈X.ex,b∉X.fs
 mX:X.s₀.heap.FunFrames X.base X.outer
 Iw:∀ b∈X.fs,X.H₀ b=none
structure Inv (X:Cx) (pins:List (Addr × Obj)) (σ:List (Option V)) (H:Hp) (s:Shared):Prop where
 ok:X.Ok
 os:s.os=X.s₀.os
 bare:AllBare s.gens
 base:Un X.fs X.ex X.H₀ H X.s₀.heap s.heap
 loc:∃ m,s.heap.Ns X.env.locals m∧∀ (i:Nat) (x:Str) (v:V),X.N[i]? = some x→σ[i]? = some (some v)→Vis X.env.scope x→∃ u,RelV v u∧Look X.env s.heap m x u
 cell:∀ x c,X.env.cells.lookup x=some c→∃ v,s.heap.IsCell c v
 free:H X.env.locals=none
 ie:∀ x c,X.env.cells.lookup x=some c→H c=none
 pin:∀ p∈X.pn++pins,s.heap.get? p.1=some p.2∧H p.1=none∧p.1≠X.env.locals∧p.1∉X.fs∧∀ v,p.2.data≠.cell v
 hok:mW X.prog X.w H s.heap
 len:σ.length=X.N.length
section
variable {X:Cx}{pins:List (Addr × Obj)}{σ:List (Option V)}{H H':Hp}{s:Shared}{h':Heap}
theorem Cx.Ok.aeu (ok:X.Ok) {b:Addr}{o:Obj} (e:X.base.get? b=some o):b∉X.fs:=fun hb=>by
 have:=(ok.mX.mem hb).1
 rw [e] at this;cases this
theorem Inv.bs (I:Inv X pins σ H s):∀ b o,X.base.get? b=some o→s.heap.get? b=some o∧H b=none:=fun b o e =>
 ⟨I.base.keep b o (I.ok.bs b o e).1 (I.ok.bs b o e).2 (I.ok.aeu e) (I.ok.Iv b o e),I.base.free b o (I.ok.bs b o e).1 (I.ok.bs b o e).2 (I.ok.Iv b o e)⟩
theorem Inv.bk (I:Inv X pins σ H s):∀ b o,X.base.get? b=some o→s.heap.get? b=some o:=fun b o e=>(I.bs b o e).1
theorem Inv.mod (I:Inv X pins σ H s):Mod X.K X.mg X.base:=I.ok.mod
theorem Inv.uO (I:Inv X pins σ H s):X.K.In s.heap:=I.ok.mod.Pu.keeps I.bk
theorem Inv.nolimit (I:Inv X pins σ H s):s.heap.NoLimit:=I.ok.mod.nolimit.keeps I.bk
theorem Inv.fr (I:Inv X pins σ H s):∃ m,Fr X.base X.env.locals s.heap m :=
 let ⟨m,hn,_⟩:=I.loc
 ⟨m,hn,I.bk,Nat.le_trans I.ok.G8 I.ok.above⟩
theorem Inv.lt (I:Inv X pins σ H s):X.env.locals<s.heap.objs.size:=let ⟨_,hn,_⟩:=I.loc;hn.lt
theorem Inv.sz (I:Inv X pins σ H s):X.s₀.heap.objs.size≤s.heap.objs.size:=Nat.le_trans I.ok.above (Nat.le_of_lt I.lt)
theorem Inv.Mv (I:Inv X pins σ H s) {a:Addr} (h:s.heap.objs.size≤a):a∉X.fs:=fun hb=>by
 obtain⟨_,o,ho,_⟩:=I.ok.mX.mem hb
 exact absurd (Nat.lt_of_lt_of_le (Heap.lt_size ho) (Nat.le_trans I.sz h)) (Nat.lt_irrefl _)
theorem Inv.QB (I:Inv X pins σ H s):∀ x c,X.env.cells.lookup x=some c→c≠X.env.locals:=fun x c e z=>by
 obtain⟨v,o,ho,hd⟩:=I.cell x c e
 obtain⟨m,⟨o',es,ep,ho',hd',_⟩,_⟩:=I.loc
 rw [z,ho'] at ho;cases ho;rw [hd'] at hd;cases hd
theorem Inv.mX (I:Inv X pins σ H s):s.heap.FunFrames X.base X.outer:=by
 have all:∀ (l:List Env),(∀ b∈frs l,b∈X.fs)→X.s₀.heap.FunFrames X.base l→s.heap.FunFrames X.base l:=by
   intro l
   induction l with
   | nil=>intro _ _;trivial
   | cons env r ih =>
     intro hs hl
     obtain⟨hk,⟨L,o,hf,hn,ho,hd⟩,hr⟩:=hl
     have hL:L∈X.fs:=hs L (by unfold frs;rw [List.filterMap_cons,hf];exact List.mem_cons_self)
     obtain⟨sl,e⟩:=I.base.slot L o ho (I.ok.Iw L hL) hL fun z=>I.ok.Mu L z hL
     exact⟨hk,⟨L,_,hf,hn,e,hd⟩,ih (fun b hb=>hs b (by unfold frs;rw [List.filterMap_cons,hf];exact List.mem_cons_of_mem _ hb)) hr⟩
 exact all X.outer (fun _ hb=>hb) I.ok.mX
theorem Inv.stack (I:Inv X pins σ H s):s.heap.FunFrames X.base X.stack:=by
 rcases I.ok.Vm with e | ⟨e,hf⟩
 · rw [e];exact I.mX
 · rw [e]
   obtain⟨m,hn,_⟩:=I.loc
   refine .cons (by rw [I.ok.kind];decide) hf hn ?_ I.mX
   exact Heap.get?_none_of_le (Nat.le_trans I.ok.G8 I.ok.above)
theorem Inv.rD (I:Inv X pins σ H s):∀ b∈frs X.stack,b∈X.env.locals::X.fs:=fun b hb=>by
 rcases I.ok.Vm with e | ⟨e,hf⟩
 · rw [e] at hb;exact List.mem_cons_of_mem _ hb
 · rw [e] at hb
   unfold frs at hb
   rw [List.filterMap_cons,hf] at hb
   exact hb
theorem Inv.yh (I:Inv X pins σ H s):∀ b∈frs X.stack,H b=none:=fun b hb=>by
 rcases List.mem_cons.mp (I.rD b hb) with e | hb
 · rw [e];exact I.free
 · obtain⟨_,o,ho,_⟩:=I.ok.mX.mem hb
   exact I.base.free b o ho (I.ok.Iw b hb) fun z=>I.ok.Mu b z hb
theorem Inv.step {g':Array GenState}{t':Nat}{d':Drawn}{ch:List Addr} (I:Inv X pins σ H s)
   (hch:∀ b∈ch,(b∈X.ex∨X.s₀.heap.objs.size≤b)∧b≠X.env.locals∧(∀ x c,X.env.cells.lookup x=some c→c≠b)∧∀ p∈X.pn++pins,p.1≠b)
   (keep:∀ b o,b≠X.env.locals→b∉X.fs→b∉ch→s.heap.get? b=some o→H b=none→h'.get? b=some o)
   (slot:∀ b o,b≠X.env.locals→b∈X.fs→b∉ch→s.heap.get? b=some o→H b=none→∃ sl,h'.get? b=some { o with slots:=sl }) (free:∀ b o,b∉ch→s.heap.get? b=some o→H b=none→H' b=none)
   (there:∀ b o,b∉ch→s.heap.get? b=some o→∃ o',h'.get? b=some o')
   (tups:∀ b xs,H b=some (.tup xs)→H' b=some (.tup xs)) (jW:∀ b o u,H b=some (.ji o u)→H' b=some (.ji o u)) (j7:∀ b ps,H b=some (.qp ps)→∃ more,H' b=some (.qp (ps++more)))
   (ns:∀ m,s.heap.Ns X.env.locals m→h'.Ns X.env.locals m) (hok:mW X.prog X.w H' h') (hg:AllBare g') :
   Inv X pins σ H' { s with heap:=h',gens:=g',drawn:=d',toks:=t' }:=by
 have neL:∀ b o,X.s₀.heap.get? b=some o→b≠X.env.locals:=fun b o e=>Nat.ne_of_lt (Nat.lt_of_lt_of_le (Heap.lt_size e) I.ok.above)
 have neC:∀ b o,X.s₀.heap.get? b=some o→b∉X.ex→b∉ch:=fun b o e hx hb=>by
   rcases (hch b hb).1 with z | z
   · exact hx z
   · exact absurd (Nat.lt_of_lt_of_le (Heap.lt_size e) z) (Nat.lt_irrefl _)
 have cellK:∀ x c,X.env.cells.lookup x=some c→∀ v,s.heap.IsCell c v→h'.IsCell c v:=fun x c e v ⟨o,ho,hd⟩=>by
   have Vn:c∉ch:=fun z=>(hch c z).2.2.1 x c e rfl
   by_cases hc:c∈X.fs
   · obtain⟨sl,q⟩:=slot c o (I.QB x c e) hc Vn ho (I.ie x c e)
     exact⟨_,q,hd⟩
   · exact⟨o,keep c o (I.QB x c e) hc Vn ho (I.ie x c e),hd⟩
 refine⟨I.ok,I.os,hg,⟨fun b o e n hb hx=>?_,fun b o e n hb hx=>?_,fun b o e n hx=>?_,fun b o e hx=>?_,fun b xs e=>tups b xs (I.base.tups b xs e),fun b o xs e=>jW b o xs (I.base.jW b o xs e),fun b ps e=>?_⟩,?_,fun x c e=>?_,?_,fun x c e=>?_,fun p hp=>?_,hok,I.len⟩
 · exact keep b o (neL b o e) hb (neC b o e hx) (I.base.keep b o e n hb hx) (I.base.free b o e n hx)
 · obtain⟨sl,e1⟩:=I.base.slot b o e n hb hx
   obtain⟨sl',e2⟩:=slot b _ (neL b o e) hb (neC b o e hx) e1 (I.base.free b o e n hx)
   exact⟨sl',e2⟩
 · obtain⟨o',e1⟩:=I.base.there b o e hx
   exact free b o' (neC b o e hx) e1 (I.base.free b o e n hx)
 · obtain⟨o',e1⟩:=I.base.there b o e hx
   exact there b o' (neC b o e hx) e1
 · obtain⟨m1,e1⟩:=I.base.j7 b ps e
   obtain⟨m2,e2⟩:=j7 b _ e1
   exact⟨m1++m2,by rw [e2,Array.append_assoc]⟩
 · obtain⟨m,hn,hl⟩:=I.loc
   refine⟨m,ns m hn,fun i x v e1 e2 e3=>?_⟩
   obtain⟨u,r,l⟩:=hl i x v e1 e2 e3
   refine⟨u,r,?_⟩
   rcases l with l | ⟨k,c,e,z⟩
   · exact .inl l
   · exact .inr ⟨k,c,e,cellK x c e _ z⟩
 · obtain⟨v,z⟩:=I.cell x c e
   exact⟨v,cellK x c e v z⟩
 · obtain⟨m,⟨o,_,_,ho,_⟩,_⟩:=I.loc
   exact free _ o (fun z=>(hch _ z).2.1 rfl) ho I.free
 · obtain⟨v,o,ho,hd⟩:=I.cell x c e
   exact free c o (fun z=>(hch c z).2.2.1 x c e rfl) ho (I.ie x c e)
 · obtain⟨e,n,ne,nf,d⟩:=I.pin p hp
   have Vn:p.1∉ch:=fun z=>(hch p.1 z).2.2.2 p hp rfl
   exact⟨keep p.1 p.2 ne nf Vn e n,free p.1 p.2 Vn e n,ne,nf,d⟩
theorem Inv.un {t':Nat} (I:Inv X pins σ H s) (u:Un X.fs [] H H' s.heap h') (hok:mW X.prog X.w H' h'):Inv X pins σ H' { s with heap:=h',toks:=t' }:=by
 obtain⟨m,⟨o,es,ep,ho,r⟩,_⟩:=id I.loc
 obtain⟨sl,hL⟩:=u.any ho I.free (by simp)
 exact I.step (g':=s.gens) (d':=s.drawn) (ch:=[]) (fun _ z=>nomatch z) (fun b o _ hb _ e n=>u.keep b o e n hb (by simp)) (fun b o _ hb _ e n=>u.slot b o e n hb (by simp)) (fun b o _ e n=>u.free b o e n (by simp)) (fun b o _ e=>u.there b o e (by simp)) u.tups u.jW u.j7 (fun m' hm=>by
   obtain⟨o',es',ep',ho',r'⟩:=hm
   rw [ho] at ho';cases ho'
   exact⟨_,es',ep',hL,r'⟩) hok I.bare
theorem Inv.call {g':Array GenState}{t':Nat}{d':Drawn}{ch:List Addr} (I:Inv X pins σ H s) (u:Un (frs X.stack) ch H H' s.heap h') (hok:mW X.prog X.w H' h') (hg:AllBare g')
   (hch:∀ b∈ch,(b∈X.ex∨X.s₀.heap.objs.size≤b)∧b≠X.env.locals∧(∀ x c,X.env.cells.lookup x=some c→c≠b)∧∀ p∈X.pn++pins,p.1≠b) :
   Inv X pins σ H' { s with heap:=h',gens:=g',drawn:=d',toks:=t' }:=by
 obtain⟨m,⟨o,es,ep,ho,r⟩,_⟩:=id I.loc
 obtain⟨sl,hL⟩:=u.any ho I.free fun z=>(hch _ z).2.1 rfl
 exact I.step (ch:=ch) hch (fun b o hL hb hc e n=>u.keep b o e n (fun z=>(List.mem_cons.mp (I.rD b z)).elim hL hb) hc) (fun b o _ _ hc e n=>u.any e n hc) (fun b o hc e n=>u.free b o e n hc) (fun b o hc e=>u.there b o e hc) u.tups u.jW u.j7 (fun m' hm=>by
   obtain⟨o',es',ep',ho',r'⟩:=hm
   rw [ho] at ho';cases ho'
   exact⟨_,es',ep',hL,r'⟩) hok hg
theorem Inv.turned {t':Nat}{it:Addr} (I:Inv X pins σ H s) (k:∀ b o,b≠it→s.heap.get? b=some o→h'.get? b=some o) (hn:H it=none) (hL:it≠X.env.locals)
   (h1:it∈X.ex∨X.s₀.heap.objs.size≤it) (h2:∀ x c,X.env.cells.lookup x=some c→c≠it) (h3:∀ p∈X.pn++pins,p.1≠it):Inv X pins σ H { s with heap:=h',toks:=t' }:=by
 have Vo:∀ b u,H b=some u→b≠it:=fun b u e z=>by rw [z,hn] at e;cases e
 refine I.step (g':=s.gens) (d':=s.drawn) (ch:=[it]) (fun b hb=>?_) (fun b o _ _ hc e _=>k b o (fun z=>hc (by simp [z])) e) (fun b o _ _ hc e _=>⟨o.slots,k b o (fun z=>hc (by simp [z])) e⟩) (fun _ _ _ _ n=>n)
   (fun b o hc e=>⟨o,k b o (fun z=>hc (by simp [z])) e⟩) (fun _ _ e=>e) (fun _ _ _ e=>e) (fun b ps e=>⟨#[],by rw [e];simp⟩) (fun m hm=>?_) (fun b u e=>?_) I.bare
 · have e:b=it:=by simpa using hb
   subst e
   exact⟨h1,hL,h2,h3⟩
 · obtain⟨o,es,ep,ho,r⟩:=hm
   exact⟨o,es,ep,k _ o (Ne.symm hL) ho,r⟩
 · refine (I.hok b u e).stay (fun c v hc q=>k c v ?_ q) (fun _ q=>q) fun _ _ q=>q
   rcases hc with z | z
   · rw [z];exact Vo b u e
   · exact Vo c _ z
theorem Inv.tok (I:Inv X pins σ H s) (t:Nat):Inv X pins σ H { s with toks:=t }:=I.un (h':=s.heap) (t':=t) Un.refl I.hok
theorem Inv.kept {t':Nat} (I:Inv X pins σ H s) (k:∀ b u,s.heap.get? b=some u→h'.get? b=some u):Inv X pins σ H { s with heap:=h',toks:=t' }:=I.un (Un.kept k) (I.hok.kept k)
theorem Inv.laid {a:Addr}{o:HO}{t':Nat} (I:Inv X pins σ H s) (k:∀ b u,s.heap.get? b=some u→h'.get? b=some u) (hp:s.heap.objs.size≤a) (new:bC X.prog X.w (upd H a o) h' a o) :
   Inv X pins σ (upd H a o) { s with heap:=h',toks:=t' }:=I.un (Un.laid k hp (I.hok.fresh hp)) (I.hok.laid k hp new)
theorem Inv.write {x e:Addr}{o:HO}{t':Nat} (I:Inv X pins σ H s) (mu:Vk (H x)) (he:e=x∨H e=some (.own x)) (k:∀ b u,b≠e→s.heap.get? b=some u→h'.get? b=some u) (heo:∃ u,h'.get? e=some u)
   (new:bC X.prog X.w (upd H x o) h' x o):Inv X pins σ (upd H x o) { s with heap:=h',toks:=t' }:=I.un (Un.write mu he k heo) (I.hok.write mu he k heo new)
theorem Inv.weak {σ':List (Option V)} (I:Inv X pins σ H s) (hl:σ'.length=σ.length) (w:∀ (i:Nat) v,σ'[i]? = some (some v)→σ[i]? = some (some v)):Inv X pins σ' H s :=
 ⟨I.ok,I.os,I.bare,I.base,let ⟨m,hn,hl'⟩:=I.loc; ⟨m,hn,fun i x v e1 e2 e3=>hl' i x v e1 (w i v e2) e3⟩,I.cell,I.free,I.ie,I.pin,I.hok,hl.trans I.len⟩
theorem Inv.dY {uP:List (Addr × Obj)} (I:Inv X pins σ H s) (h:∀ p∈uP,s.heap.get? p.1=some p.2∧H p.1=none∧p.1≠X.env.locals∧p.1∉X.fs∧∀ v,p.2.data≠.cell v):Inv X uP σ H s :=
 ⟨I.ok,I.os,I.bare,I.base,I.loc,I.cell,I.free,I.ie,fun p hp=>(List.mem_append.mp hp).elim (fun z=>I.pin p (List.mem_append_left _ z)) (h p),I.hok,I.len⟩
theorem Bc {N:List Str} (hN:N.Nodup) {i j:Nat}{x:Str} (a:N[i]? = some x) (b:N[j]? = some x):i=j:=by
 obtain⟨h1,e1⟩:=List.getElem?_eq_some_iff.mp a
 obtain⟨h2,e2⟩:=List.getElem?_eq_some_iff.mp b
 exact (List.getElem_inj hN).mp (e1.trans e2.symm)
theorem xq {M:Model}{A:Around}{E:Value→Shared→Prop}{i:Nat}{x:Str}{v:V}{u:Value}{Q:Unit→Shared→Prop} (I:Inv X pins σ H s) (hN:X.N.Nodup) (hi:X.N[i]? = some x) (hx:Loc X.env.scope x) (r:RelV v u)
   (h:∀ s',Inv X pins (σ.set i (some v)) H s'→(∃ a,Heap.SameBut a s.heap s'.heap∧(a=X.env.locals∨X.env.cells.lookup x=some a))→Q () s') (hf:X.fn x=true∨X.env.scope.names.lookup x=some .local:=by first | exact .inl rfl | exact .inr rfl | assumption):wpAny M A (storeName X.env x u) Q E s:=by
 obtain⟨m,hn,hl⟩:=id I.loc
 have hcls:(X.env.scope.kind == .class || (X.env.scope.kind == .module && X.env.locals != X.env.globals))=false:=by rw [I.ok.kind];rfl
 have Vp:i<σ.length:=by rw [I.len];exact (List.getElem?_eq_some_iff.mp hi).1
 have QB:=I.QB
 have tracked:∀ {a:Addr}{h':Heap},(∃ o,s.heap.get? a=some o∧H a=none)→Heap.SameBut a s.heap h'→mW X.prog X.w H h':=fun {a h'} ha hs b ob e=>by
   obtain⟨_,_,hfree⟩:=ha
   refine (I.hok b ob e).stay (fun c w' hc q=>(hs.2 c ?_).trans q) (fun _ q=>q) fun _ _ q=>q
   rintro rfl
   rcases hc with rfl | hc
   · rw [hfree] at e;cases e
   · rw [hfree] at hc;cases hc
 rcases hx with hk | hk
 · refine wpAny_storeName_local hk hn (fun h' hn' hs=>?_) hcls
   obtain⟨oL,_,_,hoL,_⟩:=id hn
   refine h _ ⟨I.ok,I.os,I.bare,⟨fun b o e n hb hx=>?_,fun b o e n hb hx=>?_,I.base.free,fun b o e hx=>?_,I.base.tups,I.base.jW,I.base.j7⟩,⟨_,hn',fun j y v' e1 e2 e3=>?_⟩,fun y c e=>?_,I.free,I.ie,fun p hp=>?_,tracked ⟨oL,hoL,I.free⟩ hs,by simpa using I.len⟩ ⟨_,hs,.inl rfl⟩
   · exact (hs.2 b (Nat.ne_of_lt (Nat.lt_of_lt_of_le (Heap.lt_size e) I.ok.above))).trans (I.base.keep b o e n hb hx)
   · obtain⟨sl,e1⟩:=I.base.slot b o e n hb hx
     exact⟨sl,(hs.2 b (Nat.ne_of_lt (Nat.lt_of_lt_of_le (Heap.lt_size e) I.ok.above))).trans e1⟩
   · obtain⟨o',e1⟩:=I.base.there b o e hx
     exact⟨o',(hs.2 b (Nat.ne_of_lt (Nat.lt_of_lt_of_le (Heap.lt_size e) I.ok.above))).trans e1⟩
   · by_cases hj:j=i
     · subst hj
       rw [hi] at e1;cases e1
       rw [List.getElem?_set_self Vp] at e2
       cases e2
       exact⟨u,r,.inl ⟨hk,by simp⟩⟩
     · rw [List.getElem?_set_ne (Ne.symm hj)] at e2
       obtain⟨u',r',q⟩:=hl j y v' e1 e2 e3
       refine⟨u',r',?_⟩
       rcases q with ⟨k,e⟩ | ⟨k,c,e,z⟩
       · refine .inl ⟨k,?_⟩
         have:y≠x:=fun e=>hj (Bc hN e1 (e ▸ hi))
         simp [this,e]
       · exact .inr ⟨k,c,e,z.sameBut hs (QB y c e)⟩
   · obtain⟨w',z⟩:=I.cell y c e
     exact⟨w',z.sameBut hs (QB y c e)⟩
   · obtain⟨e,n,ne,nf,d⟩:=I.pin p hp
     exact⟨(hs.2 p.1 ne).trans e,n,ne,nf,d⟩
 · have hfn:X.fn x=true:=by
     rcases hf with z | z
     · exact z
     · rw [z] at hk;cases hk
   obtain⟨c,hc⟩:=I.ok.has x (.inl hk)
   obtain⟨w',z⟩:=I.cell x c hc
   refine wpAny_storeName_cell I.ok.kind hk hc z (fun h' hc' hs=>?_)
   obtain⟨oc,hoc,aev⟩:=id z
   refine h { s with heap:=h' } ⟨I.ok,I.os,I.bare,⟨fun b o e n hb hx=>?_,fun b o e n hb hx=>?_,I.base.free,fun b o e hx=>?_,I.base.tups,I.base.jW,I.base.j7⟩,⟨m,hn.sameBut hs (Ne.symm (QB x c hc)),fun j y v' e1 e2 e3=>?_⟩,fun y c' e=>?_,I.free,I.ie,fun p hp=>?_,tracked ⟨oc,hoc,I.ie x c hc⟩ hs,by simpa using I.len⟩ ⟨c,hs,.inr hc⟩
   · exact (hs.2 b (Nat.ne_of_lt (Nat.lt_of_lt_of_le (Heap.lt_size e) (I.ok.cab x c hfn hc)))).trans (I.base.keep b o e n hb hx)
   · obtain⟨sl,e1⟩:=I.base.slot b o e n hb hx
     exact⟨sl,(hs.2 b (Nat.ne_of_lt (Nat.lt_of_lt_of_le (Heap.lt_size e) (I.ok.cab x c hfn hc)))).trans e1⟩
   · obtain⟨o',e1⟩:=I.base.there b o e hx
     exact⟨o',(hs.2 b (Nat.ne_of_lt (Nat.lt_of_lt_of_le (Heap.lt_size e) (I.ok.cab x c hfn hc)))).trans e1⟩
   · by_cases hj:j=i
     · subst hj
       rw [hi] at e1;cases e1
       rw [List.getElem?_set_self Vp] at e2
       cases e2
       exact⟨u,r,.inr ⟨.inl hk,c,hc,hc'⟩⟩
     · rw [List.getElem?_set_ne (Ne.symm hj)] at e2
       obtain⟨u',r',q⟩:=hl j y v' e1 e2 e3
       refine⟨u',r',?_⟩
       rcases q with q | ⟨k,c',e,z'⟩
       · exact .inl q
       · refine .inr ⟨k,c',e,z'.sameBut hs ?_⟩
         rintro rfl
         exact hj (Bc hN e1 (I.ok.inj _ _ _ e hc ▸ hi))
   · by_cases hcc:c'=c
     · subst hcc;exact⟨_,hc'⟩
     · obtain⟨w2,z2⟩:=I.cell y c' e
       exact⟨w2,z2.sameBut hs hcc⟩
   · obtain⟨e,n,ne,nf,d⟩:=I.pin p hp
     refine⟨(hs.2 p.1 ?_).trans e,n,ne,nf,d⟩
     intro q
     rw [q,hoc] at e
     have q':oc=p.2:=Option.some.inj e
     exact d w' (by rw [← q'];exact aev)
theorem uQ {M:Model}{A:Around}{E:Value→Shared→Prop}{i:Nat}{x:Str}{v:V}{u:Value}{Q:Unit→Shared→Prop} (I:Inv X pins σ H s) (hN:X.N.Nodup) (hi:X.N[i]? = some x) (hx:Loc X.env.scope x) (r:RelV v u)
   (h:∀ s',Inv X pins (σ.set i (some v)) H s'→Q () s') (hf:X.fn x=true∨X.env.scope.names.lookup x=some .local:=by first | exact .inl rfl | exact .inr rfl | assumption):wpAny M A (storeName X.env x u) Q E s :=
 xq I hN hi hx r (fun s' I' _=>h s' I') hf
theorem Inv.call' {s':Shared}{ch:List Addr} (I:Inv X pins σ H s) (ho:s'.os=s.os) (u:Un (frs X.stack) ch H H' s.heap s'.heap) (hok:mW X.prog X.w H' s'.heap) (hg:AllBare s'.gens)
   (hch:∀ b∈ch,(b∈X.ex∨X.s₀.heap.objs.size≤b)∧b≠X.env.locals∧(∀ x c,X.env.cells.lookup x=some c→c≠b)∧∀ p∈X.pn++pins,p.1≠b):Inv X pins σ H' s':=by
 obtain⟨h',g',d',t',o'⟩:=s'
 have e:o'=s.os:=ho
 subst e
 exact I.call (g':=g') (t':=t') (d':=d') u hok hg hch
end
abbrev XK:=Value→Option Addr→Hp→Prop
abbrev St:=List (Option V)
abbrev VK:=V→Hp→Prop
abbrev TE:=St→Hp→VK→Prop
abbrev TT:=St→Hp→(Bool→Hp→Prop)→Prop
abbrev TA:=St→Hp→(List V→Hp→Prop)→Prop
structure Ends where
 nx:St→Hp→Prop
 rt:VK
 bk:St→Hp→Prop:=fun _ _=>False
 ct:St→Hp→Prop:=fun _ _=>False
abbrev TS:=Ends→St→Hp→Prop
def EP (X:Cx) (pins:List (Addr × Obj)) (σ:St) (Q:VK) (u:Value) (s':Shared):Prop:=∃ v H',Inv X pins σ H' s'∧RelV v u∧Q v H'
def TP (X:Cx) (pins:List (Addr × Obj)) (σ:St) (Q:Bool→Hp→Prop) (b:Bool) (s':Shared):Prop:=∃ H',Inv X pins σ H' s'∧Q b H'
def AP (X:Cx) (pins:List (Addr × Obj)) (σ:St) (Q:List V→Hp→Prop) (us:List Value) (s':Shared):Prop:=∃ vs H',Inv X pins σ H' s'∧Vals vs us∧Q vs H'
def SP (X:Cx) (pins:List (Addr × Obj)) (D:Ends) (f:Flow) (s':Shared):Prop :=
 match f with
 | .next=>∃ σ' H',Inv X pins σ' H' s'∧D.nx σ' H'
 | .brk=>∃ σ' H',Inv X pins σ' H' s'∧D.bk σ' H'
 | .cont=>∃ σ' H',Inv X pins σ' H' s'∧D.ct σ' H'
 | .ret u=>∃ v σ' H',Inv X pins σ' H' s'∧RelV v u∧D.rt v H'
def PE (X:Cx) (e:Expr) (t:TE):Prop :=
 ∀ (pins:List (Addr × Obj)) (s:Shared) (σ:St) (H:Hp) (Q:VK),Inv X pins σ H s→t σ H Q→wpAny (model X.prog X.w) X.A (eval e X.env) (EP X pins σ Q) X.xe s
def PT (X:Cx) (e:Expr) (t:TT):Prop :=
 ∀ (pins:List (Addr × Obj)) (s:Shared) (σ:St) (H:Hp) (Q:Bool→Hp→Prop),Inv X pins σ H s→t σ H Q→wpAny (model X.prog X.w) X.A (isTrue e X.env (eval e X.env)) (TP X pins σ Q) X.xe s
def PW (X:Cx) (e:Expr) (t:TT):Prop :=
 ∀ (whole:Sem Value) (pins:List (Addr × Obj)) (s:Shared) (σ:St) (H:Hp) (Q:Bool→Hp→Prop),Inv X pins σ H s→t σ H Q→wpAny (model X.prog X.w) X.A (isTrue e X.env whole) (TP X pins σ Q) X.xe s
theorem PW.pt {X:Cx}{e:Expr}{t:TT} (h:PW X e t):PT X e t:=h _
def PA (X:Cx) (es:List Expr) (t:TA):Prop :=
 ∀ (pos:Pos) (pins:List (Addr × Obj)) (s:Shared) (σ:St) (H:Hp) (Q:List V→Hp→Prop),Inv X pins σ H s→t σ H Q→wpAny (model X.prog X.w) X.A (spliced (backTo pos (starEach es X.env))) (AP X pins σ Q) X.xe s
def PS (X:Cx) (st:Stmt) (t:TS):Prop :=
 ∀ (pins:List (Addr × Obj)) (s:Shared) (σ:St) (H:Hp) (D:Ends),Inv X pins σ H s→t D σ H→wpAny (model X.prog X.w) X.A (exec st X.env) (SP X pins D) X.xe s
def mO (X:Cx) (st:List Stmt) (t:TS):Prop :=
 ∀ (pins:List (Addr × Obj)) (s:Shared) (σ:St) (H:Hp) (D:Ends),Inv X pins σ H s→t D σ H→wpAny (model X.prog X.w) X.A (execs st X.env) (SP X pins D) X.xe s
theorem dh {α:Type}{t:Sem α}{Q Q':α→Shared→Prop}{M:Model}{A:Around}{E:Value→Shared→Prop}{s:Shared} (h:wpAny M A t Q E s) (hQ:∀ a s,Q a s→Q' a s):wpAny M A t Q' E s:=wpAny_mono h hQ fun _ _ x=>x
end L2
namespace L2
open PySem PySem.Spec PyProof.Rows
section
variable {X:Cx}
def Iz (i:Nat):TE:=fun σ H Q=>∃ v,σ[i]? = some (some v)∧Q v H
def tC (v:V):TE:=fun _ H Q=>Q v H
theorem QC {i:Nat}{x:Str}{pos:Pos} (hN:X.N[i]? = some x) (hv:Vis X.env.scope x) (hd:(x == ("__debug__":Str))=false:=by decide) (hcd:(x == ("__classdict__":Str))=false:=by decide):PE X (.Name x pos) (Iz i):=by
 intro pins s σ H Q I h
 obtain⟨v,e,h⟩:=h
 obtain⟨m,hn,hl⟩:=I.loc
 obtain⟨u,r,l⟩:=hl i x v hN e hv
 have fin:EP X pins σ Q u s:=⟨v,H,I,r,h⟩
 rcases l with ⟨hk,hm⟩ | ⟨hk,c,hc,hcell⟩
 · exact wpAny_Name (wpAny_loadName_local I.ok.kind hk hn hm fin) hd
 · rcases hk with hk | hk
   · exact wpAny_Name (wpAny_loadName_cell I.ok.kind hk hc hcell fin) hd
   · exact wpAny_Name (wpAny_loadName_free I.ok.kind hk hc hcell fin hcd) hd
theorem zI {i j pos}:PE X (.Constant (.int i) j pos) (tC (.int i)):=fun _ _ _ H _ I h=>wpAny_Constant_int ⟨.int i,H,I.tok _,⟨_,rfl⟩,h⟩
theorem mY {b j pos}:PE X (.Constant (.bool b) j pos) (tC (.bl b)):=fun _ _ _ H _ I h=>Constant_bool ⟨.bl b,H,I,rfl,h⟩
theorem jX {j pos}:PE X (.Constant .none j pos) (tC .non):=fun _ _ _ H _ I h=>Constant_none ⟨.non,H,I,rfl,h⟩
theorem zS {x j pos}:PE X (.Constant (.str x) j pos) (tC (.str x)):=fun _ _ _ H _ I h=>Calls.Constant_str ⟨.str x,H,I.tok _,⟨_,rfl⟩,h⟩
def Gl (X:Cx) (x:Str):Prop:=X.env.kindOf x=some .globalImplicit
theorem oR {E:Value→Shared→Prop}{pins:List (Addr × Obj)}{s:Shared}{σ:St}{H:Hp}{x:Str}{u:Value}{pos:Pos}{Q:Value→Shared→Prop} (I:Inv X pins σ H s) (hg:Gl X x) (hm:X.mg x=some u) (h:Q u s)
   (hd:(x == ("__debug__":Str))=false:=by decide):wpAny (model X.prog X.w) X.A (eval (.Name x pos) X.env) Q E s :=
 Calls.Name_function_global I.ok.kind hg (Calls.loadGlobal_global (by rw [I.ok.glob];exact I.mod.glob.keeps I.bk) hm h) hd
theorem uR {E:Value→Shared→Prop}{pins:List (Addr × Obj)}{s:Shared}{σ:St}{H:Hp}{x:Str}{u:Value}{pos:Pos}{Q:Value→Shared→Prop} (I:Inv X pins σ H s) (hg:Gl X x) (hm:X.mg x=none) (hv:bootBuiltins x=some u) (h:Q u s)
   (hn:x≠"__name__":=by decide) (hd:(x == ("__debug__":Str))=false:=by decide):wpAny (model X.prog X.w) X.A (eval (.Name x pos) X.env) Q E s:=by
 obtain⟨mb,h1,h2⟩:=I.mod.blt
 exact Calls.Name_function_global I.ok.kind hg (Calls.loadGlobal_builtin (by rw [I.ok.glob];exact I.mod.glob.keeps I.bk) hm (by rw [I.ok.blt];exact h1.keeps I.bk) ((h2 x hn).trans hv) h) hd
theorem Mw {x:Str}{v:V}{u:Value}{pos:Pos} (hg:Gl X x) (hm:X.mg x=some u) (r:RelV v u) (hd:(x == ("__debug__":Str))=false:=by decide):PE X (.Name x pos) (tC v) :=
 fun _ _ _ H _ I h=>oR I hg hm ⟨v,H,I,r,h⟩ hd
theorem qu {x:Str}{v:V}{u:Value}{pos:Pos} (hg:Gl X x) (hm:X.mg x=none) (hv:bootBuiltins x=some u) (r:RelV v u) (hn:x≠"__name__":=by decide) (hd:(x == ("__debug__":Str))=false:=by decide):PE X (.Name x pos) (tC v) :=
 fun _ _ _ H _ I h=>uR I hg hm hv ⟨v,H,I,r,h⟩ hn hd
variable {a b:Expr}{ta tb:TE}{pos:Pos}
def PC (X:Cx) (op:CmpOp) (a b:Expr) (t:TE):Prop :=
 ∀ (pins:List (Addr × Obj)) (s:Shared) (σ:St) (H:Hp) (Q:VK),Inv X pins σ H s→t σ H Q →
   wpAny (model X.prog X.w) X.A (eval a X.env) (fun v s₁=>wpAny (model X.prog X.w) X.A (eval b X.env) (fun u s₂=>wpAny (model X.prog X.w) X.A (compareOp op v u) (EP X pins σ Q) X.xe s₂) X.xe s₁) X.xe s
def tB (t:TE):TT:=fun σ H Q=>t σ H fun x H1=>∃ c,x=.bl c∧Q c H1
theorem yJ {e:Expr}{t:TE} (h:PE X e t) (he:∀ whole,isTrue e X.env whole=(do let v ← whole;standAt e.pos;holding [v] (truthy v)):=by intro _;rfl):PT X e (tB t):=by
 intro pins s σ H Q I hw
 refine isTrue_plain (dh (h pins s σ H _ I hw) fun v s1 ⟨x,H1,I1,r1,q1⟩=>?_) (he _)
 obtain⟨d,rfl,q⟩:=q1
 cases r1
 exact wpAny_truthy_bool ⟨H1,I1,q⟩
variable {tA tB':TT}{rest:List Expr}
def aew (t u:TT):TT:=fun σ H Q=>t σ H fun c H1=>if c=true then u σ H1 Q else Q false H1
def tOr (t u:TT):TT:=fun σ H Q=>t σ H fun c H1=>if c=true then Q true H1 else u σ H1 Q
def aex (t:TT):TT:=fun σ H Q=>t σ H fun c H1=>Q (!c) H1
theorem oU (ha:PT X a tA):PW X (.BoolOp .And [a] pos) tA:=by
 intro wh pins s σ H Q I h
 refine isTrue_and (dh (ha pins s σ H Q I h) fun c s1 e=>?_)
 cases c with
 | true=>exact isTrue_and_nil e
 | false=>exact e
theorem Ds (ha:PT X a tA):PW X (.BoolOp .Or [a] pos) tA:=by
 intro wh pins s σ H Q I h
 refine isTrue_or (dh (ha pins s σ H Q I h) fun c s1 e=>?_)
 cases c with
 | false=>exact isTrue_or_nil e
 | true=>exact e
theorem rE (ha:PT X a tA) (hb:PW X (.BoolOp .And (b::rest) pos) tB'):PW X (.BoolOp .And (a::b::rest) pos) (aew tA tB'):=by
 intro wh pins s σ H Q I h
 refine isTrue_and (dh (ha pins s σ H _ I h) fun c s1 zq=>?_)
 obtain⟨H1,I1,q1⟩:=zq
 cases c with
 | true=>exact hb wh pins s1 σ H1 Q I1 q1
 | false=>exact⟨H1,I1,q1⟩
theorem IK (ha:PT X a tA) (hb:PW X (.BoolOp .Or (b::rest) pos) tB'):PW X (.BoolOp .Or (a::b::rest) pos) (tOr tA tB'):=by
 intro wh pins s σ H Q I h
 refine isTrue_or (dh (ha pins s σ H _ I h) fun c s1 zq=>?_)
 obtain⟨H1,I1,q1⟩:=zq
 cases c with
 | true=>exact⟨H1,I1,q1⟩
 | false=>exact hb wh pins s1 σ H1 Q I1 q1
theorem iw (ha:PT X a tA):PT X (.UnaryOp .Not a pos) (aex tA):=by
 intro pins s σ H Q I h
 exact isTrue_not (ha pins s σ H (fun c H1=>Q (!c) H1) I h)
def aey (ta tb:TE):TE:=fun σ H Q=>ta σ H fun x H1=>∃ c,x=.bl c∧if c=true then Q (.bl true) H1 else tb σ H1 Q
def Vq (ta:TE):TE:=fun σ H Q=>ta σ H fun x H1=>∃ c,x=.bl c∧Q (.bl (!c)) H1
theorem QD {op}{t:TE} (h:PE X a t):PE X (.BoolOp op [a] pos) t:=fun pins s σ H Q I hw=>BoolOp_one (h pins s σ H Q I hw)
theorem Vr (ha:PE X a ta) (hb:PE X (.BoolOp .Or (b::rest) pos) tb):PE X (.BoolOp .Or (a::b::rest) pos) (aey ta tb):=by
 intro pins s σ H Q I h
 refine BoolOp_or (dh (ha pins s σ H _ I h) fun v s1 zq=>?_)
 obtain⟨x,H1,I1,r1,q1⟩:=zq
 obtain⟨c,rfl,q1⟩:=q1
 cases r1
 refine wpAny_truthy_bool ?_
 cases c with
 | false=>exact hb pins s1 σ H1 Q I1 q1
 | true=>exact⟨.bl true,H1,I1,rfl,q1⟩
theorem QF (ha:PE X a ta):PE X (.UnaryOp .Not a pos) (Vq ta):=by
 intro pins s σ H Q I h
 refine UnaryOp_ (dh (ha pins s σ H _ I h) fun v s1 zq=>?_)
 obtain⟨x,H1,I1,r1,q1⟩:=zq
 obtain⟨c,rfl,q1⟩:=q1
 cases r1
 exact not_of (wpAny_truthy_bool ⟨.bl (!c),H1,I1,rfl,q1⟩)
def tIf (t:TT) (ta tb:TE):TE:=fun σ H Q=>t σ H fun c H1=>if c=true then ta σ H1 Q else tb σ H1 Q
theorem qw {c:Expr} (hc:PT X c tA) (ha:PE X a ta) (hb:PE X b tb):PE X (.IfExp c a b pos) (tIf tA ta tb):=by
 intro pins s σ H Q I h
 refine wpAny_IfExp (dh (hc pins s σ H _ I h) fun d s1 zq=>?_)
 obtain⟨H1,I1,q1⟩:=zq
 cases d with
 | true=>exact ha pins s1 σ H1 Q I1 q1
 | false=>exact hb pins s1 σ H1 Q I1 q1
end
end L2
namespace L2
open PySem PySem.Spec PyProof.Rows
def bQ (K:PySem.W.Frag) (H:Hp) (a:Addr) (xs:List V):Prop :=
 Rd H a (.lst xs) ∨
   ∃ (o:Obj) (its:Array Value) (n:Nat),K.lookup a=some o∧o.cls=.type "list"∧o.dict=none∧o.data=.seq its n∧its.size≤sizeLine∧Vals xs its.toList
def gf (K:PySem.W.Frag) (H:Hp) (a:Addr) (xs:List V):Prop :=
 Rd H a (.tup xs) ∨
   ∃ (o:Obj) (its:Array Value) (n:Nat),K.lookup a=some o∧o.cls=.type "tuple"∧o.data=.seq its n∧its.size≤sizeLine∧Vals xs its.toList
def aez:Value→Option V
 | .none=>some .non
 | .bool b=>some (.bl b)
 | .int i _=>some (.int i)
 | .str x _=>some (.str x)
 | .bytes b _=>some (.Gb b)
 | .float b _=>some (.flt b)
 | .ref a=>some (.ref a)
 | .type n=>some (.ty n)
 | _=>none
theorem RelV.abs {x:V}{u:Value} (r:RelV x u):aez u=some x:=by
 cases x with
 | non=>cases r;rfl
 | bl _=>cases r;rfl
 | int _=>obtain⟨t,rfl⟩:=r;rfl
 | str _=>obtain⟨t,rfl⟩:=r;rfl
 | Gb _=>obtain⟨t,rfl⟩:=r;rfl
 | flt _=>obtain⟨t,rfl⟩:=r;rfl
 | ref _=>cases r;rfl
 | ty _=>cases r;rfl
theorem RelV.inj {x y:V}{u:Value} (r:RelV x u) (q:RelV y u):x=y:=Option.some.inj (r.abs.symm.trans q.abs)
theorem Vals.inj:∀ {xs ys:List V}{us:List Value},Vals xs us→Vals ys us→xs=ys
 | _,_,_,.nil,.nil=>rfl
 | _,_,_,.cons r t,.cons r' t'=>by rw [r.inj r',Vals.inj t t']
section
variable {X:Cx}{pins:List (Addr × Obj)}{σ:St}{H:Hp}{s:Shared}{a:Addr}{xs ys:List V}
theorem bQ.of {K:PySem.W.Frag} (h:H a=some (.lst xs)):bQ K H a xs:=.inl (.inl h)
theorem gf.of {K:PySem.W.Frag} (h:H a=some (.tup xs)):gf K H a xs:=.inl (.inl h)
theorem Inv.list (I:Inv X pins σ H s) (h:bQ X.K H a xs):∃ its:List Value,Vals xs its∧PlainL s.heap a its.toArray∧xs.length≤sizeLine:=by
 rcases h with h | ⟨o,its,n,hk,hc,hd,hs,hz,r⟩
 · obtain⟨z,its,n,r,e⟩:=h.ok I.hok
   exact⟨its,r,⟨_,n,e,rfl,rfl,rfl⟩,z⟩
 · refine⟨its.toList,r,⟨o,n,I.uO a o hk,hc,hd,by simpa using hs⟩,?_⟩
   have e:=r.length
   simp only [Array.length_toList] at e
   omega
theorem Inv.tuple (I:Inv X pins σ H s) (h:gf X.K H a xs):∃ its:List Value,Vals xs its∧IsTup s.heap a its.toArray∧xs.length≤sizeLine:=by
 rcases h with h | ⟨o,its,n,hk,hc,hs,hz,r⟩
 · obtain⟨z,its,r,p⟩:=h.ok I.hok
   exact⟨its,r,p,z⟩
 · refine⟨its.toList,r,⟨o,I.uO a o hk,hc,n,by simpa using hs⟩,?_⟩
   have e:=r.length
   simp only [Array.length_toList] at e
   omega
theorem Inv.Bd (I:Inv X pins σ H s) (h:bQ X.K H a xs) (h':bQ X.K H a ys):xs=ys:=by
 obtain⟨its,r,⟨o,n,e,_,_,d⟩,_⟩:=I.list h
 obtain⟨its',r',⟨o',n',e',_,_,d'⟩,_⟩:=I.list h'
 rw [e] at e';cases e'
 rw [d] at d'
 injection d' with d1 _
 have:its=its':=by simpa using congrArg Array.toList d1
 subst this
 exact r.inj r'
theorem Inv.Hb (I:Inv X pins σ H s) (h:gf X.K H a xs) (h':gf X.K H a ys):xs=ys:=by
 obtain⟨its,r,⟨o,e,_,n,d⟩,_⟩:=I.tuple h
 obtain⟨its',r',⟨o',e',_,n',d'⟩,_⟩:=I.tuple h'
 rw [e] at e';cases e'
 rw [d] at d'
 injection d' with d1 _
 have:its=its':=by simpa using congrArg Array.toList d1
 subst this
 exact r.inj r'
end
abbrev Cx.wish (X:Cx) (E:Value→Shared→Prop):Cx:={ X with xe:=E }
abbrev Cx.uT (X:Cx):Cx:=X.wish fun _ _=>False
theorem Cx.Ok.wish {X:Cx} (ok:X.Ok) (E:Value→Shared→Prop):(X.wish E).Ok :=
 ⟨ok.mod,ok.kind,ok.glob,ok.blt,ok.above,ok.inj,ok.has,ok.cab,ok.hd,ok.frames,ok.Vm,ok.exf,ok.bs,ok.G8,ok.Iv,ok.Mu,ok.mX,ok.Iw⟩
theorem Cx.Ok.iy {X:Cx}{E:Value→Shared→Prop} (ok:(X.wish E).Ok):X.Ok :=
 ⟨ok.mod,ok.kind,ok.glob,ok.blt,ok.above,ok.inj,ok.has,ok.cab,ok.hd,ok.frames,ok.Vm,ok.exf,ok.bs,ok.G8,ok.Iv,ok.Mu,ok.mX,ok.Iw⟩
section
variable {X:Cx}{pins:List (Addr × Obj)}{σ:St}{H:Hp}{s:Shared}{E:Value→Shared→Prop}
theorem Inv.wish (I:Inv X pins σ H s) (E:Value→Shared→Prop):Inv (X.wish E) pins σ H s:=⟨I.ok.wish E,I.os,I.bare,I.base,I.loc,I.cell,I.free,I.ie,I.pin,I.hok,I.len⟩
theorem Inv.iy (I:Inv (X.wish E) pins σ H s):Inv X pins σ H s:=⟨I.ok.iy,I.os,I.bare,I.base,I.loc,I.cell,I.free,I.ie,I.pin,I.hok,I.len⟩
theorem SP.iy {D:Ends}{f:Flow}{s':Shared} (h:SP (X.wish E) pins D f s'):SP X pins D f s':=by
 cases f with
 | next=>obtain⟨σ',H',I,q⟩:=h;exact⟨σ',H',I.iy,q⟩
 | brk=>obtain⟨σ',H',I,q⟩:=h;exact⟨σ',H',I.iy,q⟩
 | cont=>obtain⟨σ',H',I,q⟩:=h;exact⟨σ',H',I.iy,q⟩
 | ret u=>obtain⟨v,σ',H',I,r,q⟩:=h;exact⟨v,σ',H',I.iy,r,q⟩
theorem PE.uT {e:Expr}{t:TE} (h:PE X.uT e t):PE X e t:=fun pins s σ H Q I hw =>
 wpAny_mono (h pins s σ H Q (I.wish _) hw) (fun _ _ ⟨v,H',I',r,q⟩=>⟨v,H',I'.iy,r,q⟩) fun _ _ z=>False.elim z
theorem PT.uT {e:Expr}{t:TT} (h:PT X.uT e t):PT X e t:=fun pins s σ H Q I hw =>
 wpAny_mono (h pins s σ H Q (I.wish _) hw) (fun _ _ ⟨H',I',q⟩=>⟨H',I'.iy,q⟩) fun _ _ z=>False.elim z
theorem mO.uT {st:List Stmt}{t:TS} (h:mO X.uT st t):mO X st t:=fun pins s σ H D I hw =>
 wpAny_mono (h pins s σ H D (I.wish _) hw) (fun _ _ q=>q.iy) fun _ _ z=>False.elim z
end
section
variable {X:Cx}{st:Stmt}{rest:List Stmt}{t u:TS}{e:Expr}{te:TE}{pos:Pos}
def Vs:TS:=fun D σ H=>D.nx σ H
def QG (t u:TS):TS:=fun D σ H=>t { D with nx:=u D } σ H
theorem zV:mO X [] Vs:=fun _ _ σ H _ I h=>wpAny_execs_nil ⟨σ,H,I,h⟩
theorem zE (h1:PS X st t) (h2:mO X rest u):mO X (st::rest) (QG t u):=by
 intro pins s σ H D I h
 refine wpAny_execs_cons (dh (h1 pins s σ H { D with nx:=u D } I h) fun f s1 q=>?_)
 cases f with
 | next =>
   obtain⟨σ',H',I',q⟩:=q
   exact h2 pins s1 σ' H' D I' q
 | ret v=>exact q
 | brk=>exact q
 | cont=>exact q
theorem zF (h1:PS X st t):mO X [st] t:=by
 intro pins s σ H D I h
 refine wpAny_execs_cons (dh (h1 pins s σ H D I h) fun f s1 q=>?_)
 cases f with
 | next=>exact wpAny_execs_nil q
 | ret v=>exact q
 | brk=>exact q
 | cont=>exact q
theorem Inv.quiet {pins:List (Addr × Obj)}{σ:St}{H:Hp}{s:Shared} (I:Inv X pins σ H s):interactive X.env=false:=by simp [interactive,I.ok.kind]
def Vt (te:TE):TS:=fun D σ H=>te σ H fun _ H1=>D.nx σ H1
theorem zR (he:PE X e te) (hs:swapsWith e none pos.line X.env=pure false:=by rfl):PS X (.Expr e pos) (Vt te):=by
 intro pins s σ H D I h
 exact wpAny_Expr_any (dh (he pins s σ H _ I h) fun v s1 ⟨x,H1,I1,r1,q1⟩=>⟨σ,H1,I1,q1⟩) I.quiet hs
def aeA (te:TE):TS:=fun D σ H=>te σ H D.rt
theorem zO (he:PE X e te):PS X (.Return (some e) pos) (aeA te):=by
 intro pins s σ H D I h
 exact wpAny_Return_some (dh (he pins s σ H _ I h) fun v s1 ⟨x,H1,I1,r1,q1⟩=>⟨x,σ,H1,I1,r1,q1⟩)
def Vu:TS:=fun D _ H=>D.rt .non H
theorem Gd:PS X (.Return none pos) Vu:=fun _ _ σ H _ I h=>wpAny_Return_none ⟨.non,σ,H,I,rfl,h⟩
def aeB (c:TT) (t u:TS):TS:=fun D σ H=>c σ H fun b H1=>if b=true then t D σ H1 else u D σ H1
theorem yH {c:Expr}{a b:List Stmt}{tc:TT} (hc:PT X c tc) (ha:mO X a t) (hb:mO X b u):PS X (.If c a b pos) (aeB tc t u):=by
 intro pins s σ H D I h
 refine wpAny_If (dh (hc pins s σ H _ I h) fun d s1 zq=>?_)
 obtain⟨H1,I1,q1⟩:=zq
 cases d with
 | true=>exact ha pins s1 σ H1 D I1 q1
 | false=>exact hb pins s1 σ H1 D I1 q1
end
abbrev TG:=V→St→Hp→(St→Hp→Prop)→Prop
abbrev QH:=List V→St→Hp→(St→Hp→Prop)→Prop
def PG (X:Cx) (target:Expr) (t:TG):Prop :=
 ∀ (pins:List (Addr × Obj)) (s:Shared) (σ:St) (H:Hp) (v:V) (u:Value) (Q:St→Hp→Prop),Inv X pins σ H s→RelV v u→t v σ H Q →
   wpAny (model X.prog X.w) X.A (assign target X.env u) (fun _ s'=>∃ σ' H',Inv X pins σ' H' s'∧Q σ' H') X.xe s
def uG (X:Cx) (ts:List Expr) (t:QH):Prop :=
 ∀ (pins:List (Addr × Obj)) (s:Shared) (σ:St) (H:Hp) (vs:List V) (us:List Value) (Q:St→Hp→Prop),Inv X pins σ H s→Vals vs us→t vs σ H Q →
   wpAny (model X.prog X.w) X.A (assignInOrder ((assignEach ts X.env).map (·.2)) us) (fun _ s'=>∃ σ' H',Inv X pins σ' H' s'∧Q σ' H') X.xe s
abbrev aeC:=V→V→V→Hp→(Hp→Prop)→Prop
def j8 (X:Cx) (t:aeC):Prop :=
 ∀ (pins:List (Addr × Obj)) (s:Shared) (σ:St) (H:Hp) (o i v:V) (ov iv u:Value) (Q:Hp→Prop),Inv X pins σ H s→RelV o ov→RelV i iv→RelV v u→t o i v H Q →
   wpAny (model X.prog X.w) X.A (setItem ov iv u) (fun _ s'=>∃ H',Inv X pins σ H' s'∧Q H') X.xe s
section
variable {X:Cx}{pos:Pos}
def bB (i:Nat):TG:=fun v σ H Q=>Q (σ.set i (some v)) H
theorem zQ {i:Nat}{x:Str} (hN:X.N.Nodup) (hi:X.N[i]? = some x) (hx:Loc X.env.scope x) (hf:X.fn x=true∨X.env.scope.names.lookup x=some .local:=by first | exact .inl rfl | exact .inr rfl | assumption):PG X (.Name x pos) (bB i):=by
 intro pins s σ H v u Q I r h
 exact wpAny_assign_Name (uQ I hN hi hx r (fun s' I'=>⟨_,H,I',h⟩) hf)
def Vv:QH:=fun vs σ H Q=>vs=[]∧Q σ H
def IV (t:TG) (u:QH):QH:=fun vs σ H Q=>∃ v r,vs=v::r∧t v σ H fun σ' H'=>u r σ' H' Q
theorem iW:uG X [] Vv:=by
 intro pins s σ H vs us Q I r h
 obtain⟨e,h⟩:=h
 subst e
 cases r
 exact assignInOrder_nil ⟨σ,H,I,h⟩
theorem yA {e:Expr}{es:List Expr}{t:TG}{u:QH} (h1:PG X e t) (h2:uG X es u)
   (hs:(assignEach (e::es) X.env).map (·.2)=assign e X.env::(assignEach es X.env).map (·.2):=by rfl):uG X (e::es) (IV t u):=by
 intro pins s σ H vs us Q I r h
 obtain⟨v,vr,e1,h⟩:=h
 subst e1
 cases r with
 | cons r rr =>
   rw [hs]
   refine assignInOrder_cons (dh (h1 pins s σ H _ _ _ I r h) fun _ s1 zq=>?_)
   obtain⟨σ1,H1,I1,q1⟩:=zq
   exact h2 pins s1 σ1 H1 _ _ Q I1 rr q1
def Vw (K:PySem.W.Frag) (n:Nat) (t:QH):TG:=fun v σ H Q=>∃ a xs,v=.ref a∧gf K H a xs∧xs.length=n∧t xs σ H Q
theorem kY {es:List Expr}{k:Nat}{t:QH}{n:Nat} (hc:X.calm=true) (h:uG X es t)
   (hn:(assignEach es X.env).length=n:=by rfl) (hst:(assignEach es X.env).findIdx? (·.1)=none:=by rfl):PG X (.Tuple es k pos) (Vw X.K n t):=by
 intro pins s σ H v u Q I r hw
 obtain⟨a,xs,e1,hq,hl,hw⟩:=hw
 subst e1
 cases r
 obtain⟨its,rv,ht,hz⟩:=I.tuple hq
 refine assign_Tuple_tuple (I.ok.hd hc) ht (by simp [hn,← hl,rv.length]) hst fun h' hx=>?_
 have I1:Inv X pins σ H { s with heap:=h' }:=I.kept (t':=s.toks) fun b o e=>hx b o (Nat.ne_of_lt (Heap.lt_size e)) e
 exact h pins _ σ H xs _ Q I1 (by simpa using rv) hw
def Mx (te:TE) (g:TG):TS:=fun D σ H=>te σ H fun x H1=>g x σ H1 D.nx
theorem QJ {tg e:Expr}{te:TE}{g:TG} (he:PE X e te) (hg:PG X tg g) (hs:swapsWithSole [tg] e pos.line X.env=pure false:=by rfl) (hw:swappedStores [tg] e X.env=pure none:=by rfl)
   (h1:(assignEach [tg] X.env).map (·.2)=[assign tg X.env]:=by rfl):PS X (.Assign [tg] e pos) (Mx te g):=by
 intro pins s σ H D I h
 refine wpAny_Assign_stores (dh (he pins s σ H _ I h) fun v s1 ⟨x,H1,I1,r1,q1⟩=>?_) hs hw
 rw [h1]
 exact dh (hg pins s1 σ H1 x v _ I1 r1 q1) fun _ s2 q=>q
theorem zU {i:Nat}{x:Str}{e:Expr}{te:TE}{pos':Pos} (hN:X.N.Nodup) (hi:X.N[i]? = some x) (hx:Loc X.env.scope x) (he:PE X e te) (hs:swapsWith e (some (.Name x pos')) pos.line X.env=pure false:=by rfl) (hf:X.fn x=true∨X.env.scope.names.lookup x=some .local:=by first | exact .inl rfl | exact .inr rfl | assumption) :
   PS X (.Assign [.Name x pos'] e pos) (Mx te (bB i)):=by
 intro pins s σ H D I h
 refine wpAny_Assign_Name (dh (he pins s σ H _ I h) fun v s1 ⟨y,H1,I1,r1,q1⟩=>?_) hs
 exact uQ I1 hN hi hx r1 (fun s2 I2=>⟨_,H1,I2,q1⟩) hf
end
section
variable {X:Cx}{pos:Pos}
def IW (c:TT) (tb:TS):TS:=fun D σ H=>∃ W:Nat→St→Hp→Prop,(∃ m,W m σ H)∧∀ m σ H,W m σ H →
 c σ H fun b H1=>if b=true then ∃ N:St→Hp→Prop,(∀ σ' H',N σ' H'→∃ m',m'<m∧W m' σ' H')∧tb { D with nx:=N,ct:=N,bk:=D.nx } σ H1 else D.nx σ H1
theorem Ja {c:Expr}{body:List Stmt}{tc:TT}{tb:TS} (hp:PassesOwn (model X.prog X.w) X.A X.env X.xe) (hc:PT X c tc) (hb:mO X body tb):PS X (.While c body [] pos) (IW tc tb):=by
 intro pins s σ H D I h
 obtain⟨W,⟨m0,w0⟩,turn⟩:=h
 refine wpAny_While (codeAny_whileLoop (fun n s'=>∃ σ' H',Inv X pins σ' H' s'∧W n σ' H') ?_ m0 ⟨σ,H,I,w0⟩)
 rintro n s1 ⟨σ1,H1,I1,w1⟩
 refine wpAny_passesOwn hp (dh (hc pins s1 σ1 H1 _ I1 (turn n σ1 H1 w1)) fun b s2 zq=>?_)
 obtain⟨H2,I2,q2⟩:=zq
 cases b with
 | true =>
   obtain⟨N,hN,q2⟩:=q2
   rw [if_pos rfl]
   refine wpAny_passesOwn hp (dh (hb pins s2 σ1 H2 _ I2 q2) fun f s3 q3=>?_)
   cases f with
   | next =>
     obtain⟨σ3,H3,I3,n3⟩:=q3
     obtain⟨m',hm,w3⟩:=hN σ3 H3 n3
     exact⟨m',hm,σ3,H3,I3,w3⟩
   | cont =>
     obtain⟨σ3,H3,I3,n3⟩:=q3
     obtain⟨m',hm,w3⟩:=hN σ3 H3 n3
     exact⟨m',hm,σ3,H3,I3,w3⟩
   | brk=>exact q3
   | ret v=>exact q3
 | false =>
   rw [if_neg Bool.false_ne_true]
   exact wpAny_execs_nil ⟨σ1,H2,I2,q2⟩
end
structure It where
 go:Nat→Hp→Prop
 Be:Nat→Hp→V→Hp→Prop
 stop:Nat→Hp→Prop
def iz (X:Cx) (pins:List (Addr × Obj)) (H:Hp) (b:Addr):Prop :=
 H b=none∧b≠X.env.locals∧b∉X.fs∧(b∈X.ex∨X.s₀.heap.objs.size≤b)∧(∀ x c,X.env.cells.lookup x=some c→c≠b)∧∀ p∈X.pn++pins,p.1≠b
theorem Inv.yj {X:Cx}{pins:List (Addr × Obj)}{σ:St}{H H':Hp}{s:Shared}{b:Addr} (I:Inv X pins σ H s) (hb:s.heap.objs.size≤b) (hn:H' b=none):iz X pins H' b:=by
 refine⟨hn,Nat.ne_of_gt (Nat.lt_of_lt_of_le I.lt hb),I.Mv hb,.inr (Nat.le_trans I.sz hb),fun x c e z=>?_,fun p hp z=>?_⟩
 · obtain⟨v,q⟩:=I.cell x c e
   exact absurd (Nat.lt_of_lt_of_le q.lt (by rw [z];exact hb)) (Nat.lt_irrefl _)
 · exact absurd (Nat.lt_of_lt_of_le (Heap.lt_size (I.pin p hp).1) (by rw [z];exact hb)) (Nat.lt_irrefl _)
structure Turn (P:Program) (w:World) (K:PySem.W.Frag) (tg:Expr) (J:It) (fp:List Addr) (it:Addr) (tn:Nat→Heap→Prop):Prop where
 mem:it∈fp
 obj:∀ i h,tn i h→∀ b∈fp,∃ o,h.get? b=some o∧∀ v,o.data≠.cell v
 keep:∀ i h h',tn i h→(∀ b∈fp,∀ o,h.get? b=some o→h'.get? b=some o)→tn i h'
 item:∀ (X:Cx),X.prog=P→X.w=w→X.K=K→X.calm=true→∀ (i:Nat) (pins:List (Addr × Obj)) (s:Shared) (σ:St) (H:Hp) (E:Value→Shared→Prop),Inv X pins σ H s→(∀ b∈fp,iz X pins H b)→tn i s.heap→J.go i H →
   wpAny (model P w) X.A (pyNext (.ref it)) (fun r s1=>∃ u,r=some u ∧
     wpAny (model P w) X.A (letOwnedTupleGo tg (.ref it) u) (fun _ s2=>∃ x H',Inv X pins σ H' s2∧RelV x u∧J.Be i H x H'∧tn (i+1) s2.heap∧∀ b∈fp,H' b=none) E s1) E s
 done:∀ (X:Cx),X.prog=P→X.w=w→X.K=K→X.calm=true→∀ (i:Nat) (pins:List (Addr × Obj)) (s:Shared) (σ:St) (H:Hp) (E:Value→Shared→Prop),Inv X pins σ H s→(∀ b∈fp,iz X pins H b)→tn i s.heap→J.stop i H →
   wpAny (model P w) X.A (pyNext (.ref it)) (fun r s1=>r=none∧Inv X pins σ H s1) E s
 self:∀ (A:Around) (i:Nat) (s:Shared) (Q:Value→Shared→Prop) (E:Value→Shared→Prop),tn i s.heap→Q (.ref it) s→wpAny (model P w) A (pyIter (.ref it)) Q E s
abbrev TI:=St→Hp→(It→Hp→Prop)→Prop
def PIE (X:Cx) (pins:List (Addr × Obj)) (σ:St) (tg:Expr) (R:It→Hp→Prop) (itv:Value) (s2:Shared):Prop :=
 ∃ (it:Addr) (fp:List Addr) (tn:Nat→Heap→Prop) (J:It) (H':Hp),itv=.ref it∧Inv X pins σ H' s2∧Turn X.prog X.w X.K tg J fp it tn∧tn 0 s2.heap∧(∀ b∈fp,iz X pins H' b)∧R J H'
def PI (X:Cx) (tg iter:Expr) (wi:TI):Prop :=
 ∀ (pins:List (Addr × Obj)) (s:Shared) (σ:St) (H:Hp) (R:It→Hp→Prop),Inv X pins σ H s→wi σ H R →
   wpAny (model X.prog X.w) X.A (eval iter X.env) (fun v s1=>wpAny (model X.prog X.w) X.A (pyIter v) (PIE X pins σ tg R) X.xe s1) X.xe s
theorem Ge {M:Model}{A:Around}{E:Value→Shared→Prop}{s:Shared}{tg:Expr}{it:Addr}{u:Value}{o:Obj}{n:String}{vs:Array Value}{Q:Unit→Shared→Prop} (ho:s.heap.get? it=some o) (hc:o.cls=.type n) (hd:o.data=.fields vs)
   (hn:["enumerate","zip","dict_itemiterator","dict_reverseitemiterator","odict_iterator","itertools.zip_longest","itertools.pairwise"].contains n=false) (hQ:Q () s):wpAny M A (letOwnedTupleGo tg (.ref it) u) Q E s:=by
 unfold letOwnedTupleGo
 cases tg <;> first
   | exact wpAny_pure hQ
   | (cases u <;> first
       | exact wpAny_pure hQ
       | (refine wpAny_bind (wpAny_load ho ?_)
          rw [hc,hd]
          show wpAny M A (if (["enumerate","zip","dict_itemiterator","dict_reverseitemiterator","odict_iterator","itertools.zip_longest","itertools.pairwise"].contains n && vs[0]? == some (rawInt _))=true then _ else _) Q E s
          rw [if_neg (by intro h;rw [hn,Bool.false_and] at h;cases h)]
          exact wpAny_pure hQ))
def Jb (K:PySem.W.Frag) (a:Addr):It :=
 ⟨fun i H=>∃ xs x,bQ K H a xs∧xs[i]? = some x,fun i H x H'=>H'=H∧∀ xs,bQ K H a xs→xs[i]? = some x,fun i H=>∃ xs,bQ K H a xs∧xs.length≤i⟩
def QK (lo:Int) (n:Nat):It:=⟨fun i _=>i<n,fun i H x H'=>H'=H∧x=.int (lo+i),fun i _=>n≤i⟩
theorem Hc {P:Program}{w:World}{K:PySem.W.Frag}{tg:Expr} (a it:Addr):Turn P w K tg (Jb K a) [it] it (fun i h=>h.IsListIter it a i) where
 mem:=by simp
 obj:=fun i h st b hb=>by
   have e:b=it:=by simpa using hb
   subst e
   obtain⟨o,e,c,d⟩:=st
   exact⟨o,e,fun v z=>by rw [d] at z;cases z⟩
 keep:=fun i h h' st k=>st.at fun o e=>k it (by simp) o e
 item:=by
   intro X hP hw hK hc i pins s σ H E I hf st hg
   subst hP hw hK
   obtain⟨xs,x,hq,hx⟩:=hg
   obtain⟨its,rv,p,hz⟩:=I.list hq
   obtain⟨u,hu,ru⟩:=rv.get hx
   obtain⟨f0,f1,f2,f3,f4,f5⟩:=hf it (by simp)
   refine wpAny_pyNext_list_item st p.isList (x:=u) (by simpa using hu) fun h' st' sb=>?_
   have I1:Inv X pins σ H { s with heap:=h' }:=I.turned (t':=s.toks) (fun b o hb e=>(sb.2 b hb).trans e) f0 f1 f3 f4 f5
   obtain⟨o,e,c,d⟩:=id st'
   exact⟨u,rfl,Ge (s:={ s with heap:=h' }) e c d (by decide) ⟨x,H,I1,ru,⟨rfl,fun ys hy=>by rw [I.Bd hy hq];exact hx⟩,st',fun b hb=>(hf b hb).1⟩⟩
 done:=by
   intro X hP hw hK hc i pins s σ H E I hf st hg
   subst hP hw hK
   obtain⟨xs,hq,hx⟩:=hg
   obtain⟨its,rv,p,hz⟩:=I.list hq
   obtain⟨f0,f1,f2,f3,f4,f5⟩:=hf it (by simp)
   have hl:=rv.length
   exact wpAny_pyNext_list_end (I.ok.hd hc) st p.isList (by simp;omega) fun h' eb=>⟨rfl,I.turned (t':=s.toks) (fun b o hb e=>eb b o hb e) f0 f1 f3 f4 f5⟩
 self:=fun _ _ _ _ _ st h=>wpAny_pyIter_listiter st h
theorem Dt {P:Program}{w:World}{K:PySem.W.Frag}{tg:Expr} (it:Addr) (lo:Int) (n:Nat):Turn P w K tg (QK lo n) [it] it (fun i h=>IsRangeIter h it (lo+(i:Nat)*1) ((n:Int) - (i:Nat)) 1) where
 mem:=by simp
 obj:=fun i h st b hb=>by
   have e:b=it:=by simpa using hb
   subst e
   exact⟨_,st,fun v z=>by
     have z':Data.fields _=Data.cell v:=z
     cases z'⟩
 keep:=fun i h h' st k=>k it (by simp) _ st
 item:=by
   intro X hP hw hK hc i pins s σ H E I hf st hg
   subst hP hw hK
   obtain⟨f0,f1,f2,f3,f4,f5⟩:=hf it (by simp)
   have W:=Walks.range (prog:=X.prog) (w:=X.w) (I.ok.hd hc) it lo 1 n
   refine W.item i s _ _ hg st fun v h' tk hv st' kk=>?_
   obtain⟨t,rfl⟩:=hv
   have I1:Inv X pins σ H { s with heap:=h',toks:=tk }:=I.turned (fun b o hb e=>kk b o (by simpa using hb) e) f0 f1 f3 f4 f5
   refine⟨_,rfl,Ge (s:={ s with heap:=h',toks:=tk }) (n:="range_iterator") st' rfl rfl (by decide) ⟨.int (lo+i),H,I1,⟨t,?_⟩,⟨rfl,rfl⟩,st',fun b hb=>(hf b hb).1⟩⟩
   rw [Int.mul_one]
 done:=by
   intro X hP hw hK hc i pins s σ H E I hf st hg
   subst hP hw hK
   obtain⟨f0,f1,f2,f3,f4,f5⟩:=hf it (by simp)
   exact wpAny_pyNext_range_end (I.ok.hd hc) st (by have:n≤i:=hg;omega) fun h' eb=>⟨rfl,I.turned (t':=s.toks) (fun b o hb e=>eb b o hb e) f0 f1 f3 f4 f5⟩
 self:=fun _ _ _ _ _ st h=>wpAny_pyIter_rangeiter st h
end L2
namespace L2
open PySem PySem.Spec PyProof.Rows
section
variable {X:Cx}{tg:Expr}
def Vx (K:PySem.W.Frag) (tl:TE):TI:=fun σ H R=>tl σ H fun x H1=>∃ a,x=.ref a∧(∃ xs,bQ K H1 a xs)∧R (Jb K a) H1
theorem yZ {l:Expr}{tl:TE} (hl:PE X l tl):PI X tg l (Vx X.K tl):=by
 intro pins s σ H R I h
 refine dh (hl pins s σ H _ I h) fun v s1 zq=>?_
 obtain⟨x,H1,I1,r1,q1⟩:=zq
 obtain⟨a,e,⟨xs,hq⟩,q⟩:=q1
 subst e
 cases r1
 obtain⟨its,rv,p,hz⟩:=I1.list hq
 refine wpAny_pyIter_list p.isList ?_
 refine⟨s1.heap.objs.size,[s1.heap.objs.size],_,_,H1,rfl,I1.kept (t':=s1.toks) fun b o e=>Heap.get?_push_of_some _ e,Hc a _,⟨_,Heap.get?_push_size _ rfl,rfl,rfl⟩,fun b hb=>?_,q⟩
 have e:b=s1.heap.objs.size:=by simpa using hb
 subst e
 exact I1.yj (Nat.le_refl _) (I1.hok.fresh (Nat.le_refl _))
theorem Jc {pins:List (Addr × Obj)}{σ:St}{H:Hp}{s:Shared}{R:It→Hp→Prop}{E:Value→Shared→Prop}{lo hi:Int}{t u v:Tok}{tk:Nat} (I:Inv X pins σ H s) (h1:-(2 ^ 62)≤lo) (h2:lo<2 ^ 62) (h3:-(2 ^ 62)≤hi) (h4:hi<2 ^ 62)
   (q:R (QK lo (hi - lo).toNat) H):wpAny (model X.prog X.w) X.A (pyIter (.ref s.heap.objs.size)) (PIE X pins σ tg R) E { s with heap:=s.heap.push { cls:=.type "range",data:=.fields #[.int lo t,.int hi u,.int 1 v] },toks:=tk }:=by
 refine wpAny_pyIter_range (IsRange.new ..) (small_one h1 h2 h3 h4) ?_
 have I1:Inv X pins σ H { s with heap:=s.heap.push { cls:=.type "range",data:=.fields #[.int lo t,.int hi u,.int 1 v] },toks:=tk }:=I.kept fun b o e=>Heap.get?_push_of_some _ e
 refine⟨(s.heap.push { cls:=.type "range",data:=.fields #[.int lo t,.int hi u,.int 1 v] }).objs.size,[(s.heap.push { cls:=.type "range",data:=.fields #[.int lo t,.int hi u,.int 1 v] }).objs.size],_,_,H,rfl,
   I1.kept (t':=tk) fun b o e=>Heap.get?_push_of_some _ e,Dt _ lo (hi - lo).toNat,?_,fun b hb=>?_,q⟩
 · have e1:lo+((0:Nat):Int)*1=lo:=by simp
   have e2:(((hi - lo).toNat:Nat):Int) - ((0:Nat):Int)=Builtin.Range.rangeSize lo hi 1:=by rw [rangeSize_one];split <;> omega
   show IsRangeIter _ _ (lo+((0:Nat):Int)*1) ((((hi - lo).toNat:Nat):Int) - ((0:Nat):Int)) 1
   rw [e1,e2]
   exact Heap.get?_push_size _ rfl
 · have e:b=(s.heap.push { cls:=.type "range",data:=.fields #[.int lo t,.int hi u,.int 1 v] }).objs.size:=by simpa using hb
   subst e
   exact I1.yj (Nat.le_refl _) (I1.hok.fresh (Nat.le_refl _))
def Vy (ta:TA):TI:=fun σ H R=>ta σ H fun vs H1=>∃ j:Int,vs=[.int j]∧-(2 ^ 62)≤j∧j<2 ^ 62∧R (QK 0 j.toNat) H1
theorem oV {a:Expr}{ta:TA}{p pos:Pos} (hg:Gl X "range") (hm:X.mg "range" = none) (ha:PA X [a] ta) (hs:starEach [a] X.env=[(false,eval a X.env)]:=by rfl):PI X tg (.Call (.Name "range" p) [a] [] pos) (Vy ta):=by
 intro pins s σ H R I h
 refine Call_ (uR I hg hm boot_range (PyProof.Rows.callWith_type1 (dh (ha pos pins s σ H _ I h) fun us s1 ⟨vs,H1,I1,r1,q1⟩=>?_) hs rfl))
 obtain⟨j,e,q1,q2,q⟩:=q1
 subst e
 cases r1 with
 | cons r rr =>
   cases rr
   obtain⟨t,rfl⟩:=r
   exact call_range_1 (Jc I1 (by omega) (by omega) q1 q2 (by simpa using q))
def aeD (wi:TI) (g:TG) (tb:TS):TS:=fun D σ H=>wi σ H fun J H1=>∃ W:Nat→Nat→St→Hp→Prop,(∃ m,W 0 m σ H1)∧∀ i m σ H,W i m σ H →
 (J.stop i H∧D.nx σ H)∨(J.go i H∧∃ N:St→Hp→Prop,(∀ σ' H',N σ' H'→∃ m',m'<m∧W (i+1) m' σ' H')∧∀ x H',J.Be i H x H'→g x σ H' fun σ2 H2=>tb { D with nx:=N,ct:=N,bk:=D.nx } σ2 H2)
def kZ (fp:List Addr) (h:Heap):List (Addr × Obj):=fp.filterMap fun b=>(h.get? b).map fun o=>(b,o)
theorem yK {fp:List Addr}{h:Heap}{b:Addr}{o:Obj} (hb:b∈fp) (e:h.get? b=some o):(b,o)∈kZ fp h:=List.mem_filterMap.mpr ⟨b,hb,by rw [e];rfl⟩
theorem Hd {fp:List Addr}{h:Heap}{p:Addr × Obj} (hp:p∈kZ fp h):p.1∈fp∧h.get? p.1=some p.2:=by
 obtain⟨b,hb,e⟩:=List.mem_filterMap.mp hp
 cases q:h.get? b with
 | none=>rw [q] at e;cases e
 | some o =>
   rw [q] at e
   have e':(b,o)=p:=Option.some.inj e
   subst e'
   exact⟨hb,q⟩
theorem Inv.pinned {pins:List (Addr × Obj)}{σ:St}{H:Hp}{s:Shared}{fp:List Addr} (I:Inv X pins σ H s) (hf:∀ b∈fp,iz X pins H b) (ho:∀ b∈fp,∃ o,s.heap.get? b=some o∧∀ v,o.data≠.cell v):Inv X (pins++kZ fp s.heap) σ H s :=
 I.dY fun p hp=>(List.mem_append.mp hp).elim (fun z=>I.pin p (List.mem_append_right _ z)) fun z=>by
   obtain⟨hb,e⟩:=Hd z
   obtain⟨f0,f1,f2,_⟩:=hf p.1 hb
   obtain⟨o,e',d⟩:=ho p.1 hb
   rw [e] at e';cases e'
   exact⟨e,f0,f1,f2,d⟩
theorem Inv.uU {pins pl:List (Addr × Obj)}{σ:St}{H:Hp}{s:Shared} (I:Inv X (pins++pl) σ H s):Inv X pins σ H s:=I.dY fun p hp=>I.pin p (List.mem_append_right _ (List.mem_append_left _ hp))
theorem QL {iter:Expr}{body:List Stmt}{wi:TI}{g:TG}{tb:TS}{pos:Pos} (hp:PassesOwn (model X.prog X.w) X.A X.env X.xe) (hc:X.calm=true) (hi:PI X tg iter wi) (hg:PG X tg g) (hb:mO X body tb)
   (hs:∀ x,foldedSetIterable iter X.env x=pure x:=by intro _;rfl):PS X (.For tg iter body [] pos) (aeD wi g tb):=by
 intro pins s σ H D I h
 refine wpAny_For (dh (hi pins s σ H _ I h) fun v s1 h1=>dh h1 fun itv s2 h2=>?_) hs
 obtain⟨it,fp,tn,J,H2,e,I2,T,st2,f2,W,⟨m0,w0⟩,turn⟩:=h2
 subst e
 have stat:∀ {H':Hp},(∀ b∈fp,H' b=none)→∀ b∈fp,iz X pins H' b:=fun hn b hb=>⟨hn b hb,(f2 b hb).2⟩
 refine codeAny_forLoop_any (fun n s'=>∃ i σ' H',Inv X pins σ' H' s'∧tn i s'.heap∧(∀ b∈fp,H' b=none)∧W i n σ' H') ?_ m0 ⟨0,σ,H2,I2,st2,fun b hb=>(f2 b hb).1,w0⟩
 rintro n s3 ⟨i,σ3,H3,I3,st3,fr3,w3⟩
 rcases turn i n σ3 H3 w3 with ⟨stop,qn⟩ | ⟨go,N,hN,step⟩
 · refine wpAny_passesOwn hp (dh (T.done X rfl rfl rfl hc i pins s3 σ3 H3 X.xe I3 (stat fr3) st3 stop) fun r s4 zq=>?_)
   obtain⟨hr,I4⟩:=zq
   subst hr
   exact wpAny_execs_nil ⟨σ3,H3,I4,qn⟩
 · refine wpAny_passesOwn hp (dh (T.item X rfl rfl rfl hc i pins s3 σ3 H3 X.xe I3 (stat fr3) st3 go) fun r s4 zq=>?_)
   obtain⟨u,hr,h4⟩:=zq
   subst hr
   refine wpAny_passesOwn hp (dh h4 fun _ s5 zq=>?_)
   obtain⟨x,H5,I5,r5,y5,yl,QM⟩:=zq
   have QQ:=I5.pinned (stat QM) (T.obj _ _ yl)
   refine wpAny_passesOwn hp (dh (hg _ s5 σ3 H5 x u _ QQ r5 (step x H5 y5)) fun _ s6 zq=>?_)
   obtain⟨σ6,H6,I6,q6⟩:=zq
   refine wpAny_passesOwn hp (dh (hb _ s6 σ6 H6 _ I6 q6) fun f s7 q7=>?_)
   have again:∀ {σ7:St}{H7:Hp},Inv X (pins++kZ fp s5.heap) σ7 H7 s7→N σ7 H7→∃ m,m<n∧∃ i σ' H',Inv X pins σ' H' s7∧tn i s7.heap∧(∀ b∈fp,H' b=none)∧W i m σ' H':=fun {σ7 H7} I7 n7=>by
     obtain⟨m',hm,w7⟩:=hN σ7 H7 n7
     refine⟨m',hm,i+1,σ7,H7,I7.uU,T.keep _ _ _ yl fun b hb o e=>(I7.pin (b,o) (List.mem_append_right _ (List.mem_append_right _ (yK hb e)))).1,fun b hb=>?_,w7⟩
     obtain⟨o,e,d⟩:=T.obj _ _ yl b hb
     exact (I7.pin (b,o) (List.mem_append_right _ (List.mem_append_right _ (yK hb e)))).2.1
   cases f with
   | next=>obtain⟨σ7,H7,I7,n7⟩:=q7;exact again I7 n7
   | cont=>obtain⟨σ7,H7,I7,n7⟩:=q7;exact again I7 n7
   | brk=>obtain⟨σ7,H7,I7,q7⟩:=q7;exact⟨σ7,H7,I7.uU,q7⟩
   | ret v=>obtain⟨x7,σ7,H7,I7,r7,q7⟩:=q7;exact⟨x7,σ7,H7,I7.uU,r7,q7⟩
end
theorem Jd {K:PySem.W.Frag}{a:Addr}{xs:List V}{g:TG}{tb:TS}{D:Ends}{σ:St}{H:Hp} (Pv:Nat→St→Hp→Prop) (h0:Pv 0 σ H) (hl:∀ i σ H,i≤xs.length→Pv i σ H→bQ K H a xs)
   (hs:∀ i x σ H,xs[i]? = some x→Pv i σ H→g x σ H fun σ2 H2=>tb { D with nx:=Pv (i+1),ct:=Pv (i+1),bk:=D.nx } σ2 H2) (hd:∀ σ H,Pv xs.length σ H→D.nx σ H) :
   ∃ W:Nat→Nat→St→Hp→Prop,(∃ m,W 0 m σ H)∧∀ i m σ H,W i m σ H →
     ((Jb K a).stop i H∧D.nx σ H)∨((Jb K a).go i H∧∃ N:St→Hp→Prop,(∀ σ' H',N σ' H'→∃ m',m'<m∧W (i+1) m' σ' H')∧∀ x H',(Jb K a).Be i H x H'→g x σ H' fun σ2 H2=>tb { D with nx:=N,ct:=N,bk:=D.nx } σ2 H2):=by
 refine⟨fun i m σ H=>m=xs.length - i∧i≤xs.length∧Pv i σ H,⟨xs.length,by simp,Nat.zero_le _,h0⟩,?_⟩
 rintro i m σ H ⟨rfl,hi,p⟩
 have q:=hl i σ H hi p
 by_cases hlt:i<xs.length
 · refine .inr ⟨⟨xs,xs[i],q,by simp [hlt]⟩,Pv (i+1),fun σ' H' p'=>⟨xs.length - (i+1),by omega,rfl,hlt,p'⟩,fun x H' y=>?_⟩
   obtain⟨e,y⟩:=y
   subst e
   exact hs i x σ _ (y xs q) p
 · have e:i=xs.length:=by omega
   subst e
   exact .inl ⟨⟨xs,q,Nat.le_refl _⟩,hd σ H p⟩
theorem Hf {lo:Int}{n:Nat}{g:TG}{tb:TS}{D:Ends}{σ:St}{H:Hp} (Pv:Nat→St→Hp→Prop) (h0:Pv 0 σ H)
   (hs:∀ i σ H,i<n→Pv i σ H→g (.int (lo+i)) σ H fun σ2 H2=>tb { D with nx:=Pv (i+1),ct:=Pv (i+1),bk:=D.nx } σ2 H2) (hd:∀ σ H,Pv n σ H→D.nx σ H) :
   ∃ W:Nat→Nat→St→Hp→Prop,(∃ m,W 0 m σ H)∧∀ i m σ H,W i m σ H →
     ((QK lo n).stop i H∧D.nx σ H)∨((QK lo n).go i H∧∃ N:St→Hp→Prop,(∀ σ' H',N σ' H'→∃ m',m'<m∧W (i+1) m' σ' H')∧∀ x H',(QK lo n).Be i H x H'→g x σ H' fun σ2 H2=>tb { D with nx:=N,ct:=N,bk:=D.nx } σ2 H2):=by
 refine⟨fun i m σ H=>m=n - i∧i≤n∧Pv i σ H,⟨n,by simp,Nat.zero_le _,h0⟩,?_⟩
 rintro i m σ H ⟨rfl,hi,p⟩
 by_cases hlt:i<n
 · refine .inr ⟨hlt,Pv (i+1),fun σ' H' p'=>⟨n - (i+1),by omega,rfl,hlt,p'⟩,fun x H' y=>?_⟩
   obtain⟨e,y⟩:=y
   subst e y
   exact hs i σ _ hlt p
 · have e:i=n:=by omega
   subst e
   exact .inl ⟨Nat.le_refl _,hd σ H p⟩
end L2
namespace L2
open PySem PySem.Spec PyProof.Rows
abbrev R2:=V→V→Hp→VK→Prop
def iB (X:Cx) (f:Value→Value→Sem Value) (r:R2):Prop :=
 ∀ (pins:List (Addr × Obj)) (s:Shared) (σ:St) (H:Hp) (x y:V) (v u:Value) (Q:VK),Inv X pins σ H s→RelV x v→RelV y u→r x y H Q →
   wpAny (model X.prog X.w) X.A (f v u) (EP X pins σ Q) X.xe s
def xr (X:Cx) (f:Value→Sem Value) (r:V→Hp→VK→Prop):Prop :=
 ∀ (pins:List (Addr × Obj)) (s:Shared) (σ:St) (H:Hp) (x:V) (v:Value) (Q:VK),Inv X pins σ H s→RelV x v→r x H Q →
   wpAny (model X.prog X.w) X.A (f v) (EP X pins σ Q) X.xe s
def cZ (X:Cx) (f:Value) (r:List V→Hp→VK→Prop):Prop :=
 ∀ (pins:List (Addr × Obj)) (s:Shared) (σ:St) (H:Hp) (xs:List V) (us:List Value) (Q:VK),Inv X pins σ H s→Vals xs us→r xs H Q →
   wpAny (model X.prog X.w) X.A (call f us) (EP X pins σ Q) X.xe s
def j9 (X:Cx) (r:V→Hp→(Bool→Hp→Prop)→Prop):Prop :=
 ∀ (pins:List (Addr × Obj)) (s:Shared) (σ:St) (H:Hp) (x:V) (v:Value) (Q:Bool→Hp→Prop),Inv X pins σ H s→RelV x v→r x H Q →
   wpAny (model X.prog X.w) X.A (truthy v) (TP X pins σ Q) X.xe s
def tOp (r:R2) (ta tb:TE):TE:=fun σ H Q=>ta σ H fun x H1=>tb σ H1 fun y H2=>r x y H2 Q
def rI (C:Int→Int→Prop) (g:Int→Int→V):R2:=fun x y H Q=>∃ i j,x=.int i∧y=.int j∧C i j∧Q (g i j) H
def Up (g:Int→Int→V):R2:=fun x y H Q=>∃ i j,x=.int i∧y=.int j∧Q (g i j) H
section
variable {X:Cx}{a b c:Expr}{ta tb tc:TE}{pos:Pos}
theorem QR (ha:PE X a ta) (hb:PE X b tb) {pins:List (Addr × Obj)}{s:Shared}{σ:St}{H:Hp}{R:V→V→Hp→Prop} (I:Inv X pins σ H s)
   (h:ta σ H fun x H1=>tb σ H1 fun y H2=>R x y H2) {Q:Value→Shared→Prop}{f:Value→Value→Sem Value}
   (hf:∀ v u s2 x y H2,Inv X pins σ H2 s2→RelV x v→RelV y u→R x y H2→wpAny (model X.prog X.w) X.A (f v u) Q X.xe s2) :
   wpAny (model X.prog X.w) X.A (eval a X.env) (fun v s₁=>wpAny (model X.prog X.w) X.A (eval b X.env) (fun u s₂=>wpAny (model X.prog X.w) X.A (f v u) Q X.xe s₂) X.xe s₁) X.xe s:=by
 refine dh (ha pins s σ H _ I h) fun v s1 zq=>?_
 obtain⟨x,H1,I1,r1,q1⟩:=zq
 refine dh (hb pins s1 σ H1 _ I1 q1) fun u s2 zq=>?_
 obtain⟨y,H2,I2,r2,q2⟩:=zq
 exact hf v u s2 x y H2 I2 r1 r2 q2
theorem zM {op:Operator}{r:R2} (ho:iB X (binaryOp op) r) (ha:PE X a ta) (hb:PE X b tb):PE X (.BinOp a op b pos) (tOp r ta tb):=by
 intro pins s σ H Q I h
 exact wpAny_BinOp (QR ha hb I h fun v u s2 x y H2 I2 rx ry q=>ho pins s2 σ H2 x y v u Q I2 rx ry q)
theorem opI {f:Value→Value→Sem Value}{C:Int→Int→Prop}{g:Int→Int→Int}
   (rule:∀ (i j:Int) (t u:Tok) (s:Shared) (Q:Value→Shared→Prop) (E:Value→Shared→Prop),C i j→Q (.int (g i j) s.toks) { s with toks:=s.toks+1 }→wpAny (model X.prog X.w) X.A (f (.int i t) (.int j u)) Q E s) :
   iB X f (rI C fun i j=>.int (g i j)):=by
 intro pins s σ H x y v u Q I rx ry h
 obtain⟨i,j,rfl,rfl,hc,q⟩:=h
 obtain⟨t,rfl⟩:=rx
 obtain⟨t',rfl⟩:=ry
 exact rule i j t t' s _ _ hc ⟨.int (g i j),H,I.tok _,⟨_,rfl⟩,q⟩
theorem Vz {f:Value→Value→Sem Value}{g:Int→Int→Int}
   (rule:∀ (i j:Int) (t u:Tok) (s:Shared) (Q:Value→Shared→Prop) (E:Value→Shared→Prop),Q (.int (g i j) s.toks) { s with toks:=s.toks+1 }→wpAny (model X.prog X.w) X.A (f (.int i t) (.int j u)) Q E s) :
   iB X f (Up fun i j=>.int (g i j)):=by
 intro pins s σ H x y v u Q I rx ry h
 obtain⟨i,j,rfl,rfl,q⟩:=h
 obtain⟨t,rfl⟩:=rx
 obtain⟨t',rfl⟩:=ry
 exact rule i j t t' s _ _ ⟨.int (g i j),H,I.tok _,⟨_,rfl⟩,q⟩
theorem VB {f:Value→Value→Sem Value}{g:Int→Int→Bool}
   (rule:∀ (i j:Int) (t u:Tok) (s:Shared) (Q:Value→Shared→Prop) (E:Value→Shared→Prop),Q (.bool (g i j)) s→wpAny (model X.prog X.w) X.A (f (.int i t) (.int j u)) Q E s) :
   iB X f (Up fun i j=>.bl (g i j)):=by
 intro pins s σ H x y v u Q I rx ry h
 obtain⟨i,j,rfl,rfl,q⟩:=h
 obtain⟨t,rfl⟩:=rx
 obtain⟨t',rfl⟩:=ry
 exact rule i j t t' s _ _ ⟨.bl (g i j),H,I,rfl,q⟩
def aeE (i j:Int):Prop:=0<j∧j<1073741824
def aeF (i j:Int):Prop:=0≤j∧j≤1000000∧i.natAbs<2 ^ 64
def VD (i j:Int):Prop:=(-(2 ^ 64)<i∧i<2 ^ 64)∨(-(2 ^ 64)<j∧j<2 ^ 64)
theorem VD.ok {i j:Int} (h:VD i j):IntMulOk i j:=by
 rcases h with ⟨h1,h2⟩ | ⟨h1,h2⟩
 · exact .of_left (intBits_le_64 h1 h2)
 · exact .of_right (intBits_le_64 h1 h2)
theorem xA:iB X (binaryOp .Add) (Up fun i j=>.int (i+j)):=Vz fun _ _ _ _ _ _ _ q=>add_int q
theorem QS:iB X (binaryOp .Sub) (Up fun i j=>.int (i - j)):=Vz fun _ _ _ _ _ _ _ q=>sub_int q
theorem lq:iB X (binaryOp .FloorDiv) (rI aeE fun i j=>.int (i / j)):=opI fun i j _ _ _ _ _ hc q=>by
 have h1:(0:Int)<j:=hc.1
 have h2:j<1073741824:=hc.2
 exact floordiv_int (by omega) (by rw [Int.fdiv_eq_ediv_of_nonneg i (by omega)];exact q) (.inl (PyProof.noPylong_small (by omega)))
theorem yW:iB X (binaryOp .Mod) (rI (fun _ j=>0<j) fun i j=>.int (i % j)):=opI fun i j _ _ _ _ _ hc q=>by
 have h1:(0:Int)<j:=hc
 exact mod_int' (by omega) (by rw [Int.fmod_eq_emod_of_nonneg i (by omega)];exact q)
theorem Je:iB X (binaryOp .Pow) (rI aeF fun i j=>.int (i ^ j.toNat)):=opI fun _ _ _ _ _ _ _ hc q=>pow_int_small hc.1 hc.2.1 hc.2.2 q
end
def VF:V→V→Bool
 | .non,.non=>true | .non,.int _=>true | .int _,.non=>true | .non,.bl _=>true | .bl _,.non=>true | .non,.str _=>true | .str _,.non=>true
 | .int _,.int _=>true | .bl _,.bl _=>true | .str _,.str _=>true | .Gb _,.Gb _=>true
 | .int _,.str _=>true | .str _,.int _=>true | .bl _,.str _=>true | .str _,.bl _=>true
 | _,_=>false
def rEq:R2:=fun x y H Q=>VF x y=true∧Q (.bl (decide (x=y))) H
def rNe:R2:=fun x y H Q=>VF x y=true∧Q (.bl (!decide (x=y))) H
theorem Gf {i j:Int}:decide (V.int i=V.int j)=(i == j):=by
 rw [Bool.eq_iff_iff]
 simp
theorem Jf {i j:Bool}:decide (V.bl i=V.bl j)=(i == j):=by
 rw [Bool.eq_iff_iff]
 simp
theorem Gg {i j:Str}:decide (V.str i=V.str j)=(i == j):=by
 rw [Bool.eq_iff_iff]
 simp
theorem Gh {i j:Array UInt8}:decide (V.Gb i=V.Gb j)=(i.toList == j.toList):=by
 rw [Bool.eq_iff_iff]
 cases i
 cases j
 simp
section
variable {X:Cx}{a b c:Expr}{ta tb tc:TE}{pos:Pos}
theorem yD {pins:List (Addr × Obj)}{σ:St}{H:Hp}{s:Shared}{Q:VK}{k k':Bool} (I:Inv X pins σ H s) (q:Q (.bl k) H) (e:k=k'):EP X pins σ Q (.bool k') s:=by
 subst e
 exact⟨.bl k,H,I,rfl,q⟩
theorem jj:iB X (compareOp .Eq) rEq:=by
 intro pins s σ H x y v u Q I rx ry h
 obtain⟨hs,q⟩:=h
 cases x with
 | non =>
   cases rx
   cases y with
   | non=>cases ry;exact PySem.EqNone.eq_none_none (yD I q (by simp))
   | bl j=>cases ry;exact PySem.EqNone.eq_none_bool (yD I q (by simp))
   | int j=>obtain⟨t',rfl⟩:=ry;exact PySem.EqNone.eq_none_int (yD I q (by simp))
   | str j=>obtain⟨t',rfl⟩:=ry;exact PySem.EqNone.eq_none_str (yD I q (by simp))
   | _=>exact absurd (show false=true from hs) Bool.false_ne_true
 | bl i =>
   cases rx
   cases y with
   | non=>cases ry;exact PySem.EqNone.eq_bool_none (yD I q (by simp))
   | bl j=>cases ry;exact eq_bool (yD I q Jf)
   | str j=>obtain⟨t',rfl⟩:=ry;exact PySem.EqMixed.eq_bool_str (yD I q (by simp))
   | _=>exact absurd (show false=true from hs) Bool.false_ne_true
 | int i =>
   obtain⟨t,rfl⟩:=rx
   cases y with
   | non=>cases ry;exact PySem.EqNone.eq_int_none (yD I q (by simp))
   | int j=>obtain⟨t',rfl⟩:=ry;exact eq_int (yD I q Gf)
   | str j=>obtain⟨t',rfl⟩:=ry;exact PySem.EqMixed.eq_int_str (yD I q (by simp))
   | _=>exact absurd (show false=true from hs) Bool.false_ne_true
 | str i =>
   obtain⟨t,rfl⟩:=rx
   cases y with
   | non=>cases ry;exact PySem.EqNone.eq_str_none (yD I q (by simp))
   | bl j=>cases ry;exact PySem.EqMixed.eq_str_bool (yD I q (by simp))
   | int j=>obtain⟨t',rfl⟩:=ry;exact PySem.EqMixed.eq_str_int (yD I q (by simp))
   | str j=>obtain⟨t',rfl⟩:=ry;exact eq_str (yD I q Gg)
   | _=>exact absurd (show false=true from hs) Bool.false_ne_true
 | Gb i =>
   obtain⟨t,rfl⟩:=rx
   cases y with
   | Gb j=>obtain⟨t',rfl⟩:=ry;exact PySem.W.eq_bytes (yD I q Gh)
   | _=>exact absurd (show false=true from hs) Bool.false_ne_true
 | _=>cases y <;> exact absurd (show false=true from hs) Bool.false_ne_true
theorem VG:iB X (compareOp .NotEq) rNe:=by
 intro pins s σ H x y v u Q I rx ry h
 obtain⟨hs,q⟩:=h
 cases x with
 | non =>
   cases rx
   cases y with
   | non=>cases ry;exact PySem.EqNone.ne_none_none (yD I q (by simp))
   | bl j=>cases ry;exact PySem.EqNone.ne_none_bool (yD I q (by simp))
   | int j=>obtain⟨t',rfl⟩:=ry;exact PySem.EqNone.ne_none_int (yD I q (by simp))
   | str j=>obtain⟨t',rfl⟩:=ry;exact PySem.EqNone.ne_none_str (yD I q (by simp))
   | _=>exact absurd (show false=true from hs) Bool.false_ne_true
 | bl i =>
   cases rx
   cases y with
   | non=>cases ry;exact PySem.EqNone.ne_bool_none (yD I q (by simp))
   | bl j=>cases ry;exact ne_bool (yD I q (congrArg not Jf))
   | str j=>obtain⟨t',rfl⟩:=ry;exact PySem.EqMixed.ne_bool_str (yD I q (by simp))
   | _=>exact absurd (show false=true from hs) Bool.false_ne_true
 | int i =>
   obtain⟨t,rfl⟩:=rx
   cases y with
   | non=>cases ry;exact PySem.EqNone.ne_int_none (yD I q (by simp))
   | int j=>obtain⟨t',rfl⟩:=ry;exact ne_int (yD I q (congrArg not Gf))
   | str j=>obtain⟨t',rfl⟩:=ry;exact PySem.EqMixed.ne_int_str (yD I q (by simp))
   | _=>exact absurd (show false=true from hs) Bool.false_ne_true
 | str i =>
   obtain⟨t,rfl⟩:=rx
   cases y with
   | non=>cases ry;exact PySem.EqNone.ne_str_none (yD I q (by simp))
   | bl j=>cases ry;exact PySem.EqMixed.ne_str_bool (yD I q (by simp))
   | int j=>obtain⟨t',rfl⟩:=ry;exact PySem.EqMixed.ne_str_int (yD I q (by simp))
   | str j=>obtain⟨t',rfl⟩:=ry;exact ne_str (yD I q (congrArg not Gg))
   | _=>exact absurd (show false=true from hs) Bool.false_ne_true
 | Gb i =>
   obtain⟨t,rfl⟩:=rx
   cases y with
   | Gb j=>obtain⟨t',rfl⟩:=ry;exact PySem.W.ne_bytes (yD I q (congrArg not Gh))
   | _=>exact absurd (show false=true from hs) Bool.false_ne_true
 | _=>cases y <;> exact absurd (show false=true from hs) Bool.false_ne_true
theorem Gi:iB X (compareOp .Lt) (Up fun i j=>.bl (decide (i<j))):=VB fun _ _ _ _ _ _ _ q=>lt_int q
theorem Jg:iB X (compareOp .Gt) (Up fun i j=>.bl (decide (j<i))):=VB fun _ _ _ _ _ _ _ q=>gt_int q
theorem rF:iB X (compareOp .Is) (fun x y H Q=>y=.non∧Q (.bl (decide (x=.non))) H):=by
 intro pins s σ H x y v u Q I rx ry h
 obtain⟨rfl,q⟩:=h
 cases ry
 refine is_none_gen (yD I q ?_)
 cases x <;> first
   | (cases rx;rfl)
   | (obtain⟨t,rfl⟩:=rx;rfl)
theorem My:iB X (compareOp .IsNot) (fun x y H Q=>y=.non∧Q (.bl (!decide (x=.non))) H):=by
 intro pins s σ H x y v u Q I rx ry h
 obtain⟨rfl,q⟩:=h
 cases ry
 refine isnot_none_gen (yD I q ?_)
 cases x <;> first
   | (cases rx;rfl)
   | (obtain⟨t,rfl⟩:=rx;rfl)
theorem yE (b:Expr) {op:CmpOp} (h:op≠.In:=by decide) (h2:op≠.NotIn:=by decide):behindInMarks op b=false:=by
 have e1:(op == CmpOp.In)=false:=by cases op <;> first | rfl | exact absurd rfl h
 have e2:(op == CmpOp.NotIn)=false:=by cases op <;> first | rfl | exact absurd rfl h2
 cases b <;> simp [behindInMarks,e1,e2]
theorem iY {op:CmpOp}{r:R2} (ho:iB X (compareOp op) r) (ha:PE X a ta) (hb:PE X b tb) (hm:behindInMarks op b=false):PE X (.Compare a [op] [b] pos) (tOp r ta tb):=by
 intro pins s σ H Q I h
 exact wpAny_Compare1 (QR ha hb I h fun v u s2 x y H2 I2 rx ry q=>ho pins s2 σ H2 x y v u Q I2 rx ry q) hm
def VH (t:TE):TT:=fun σ H Q=>t σ H fun x H'=>∃ k,x=.bl k∧Q k H'
theorem zZ {op:CmpOp}{r:R2} (ho:iB X (compareOp op) r) (ha:PE X a ta) (hb:PE X b tb) (hm:behindInMarks op b=false):PT X (.Compare a [op] [b] pos) (VH (tOp r ta tb)):=by
 intro pins s σ H Q I h
 refine wpAny_isTrue_Compare1 (dh (ha pins s σ H _ I h) fun v s1 ⟨x,H1,I1,r1,q1⟩=>dh (hb pins s1 σ H1 _ I1 q1) fun u s2 ⟨y,H2,I2,r2,q2⟩ =>
   dh (ho pins s2 σ H2 x y v u _ I2 r1 r2 q2) fun c s3 ⟨z,H3,I3,r3,k,e,q3⟩=>?_) hm
 subst e
 cases r3
 exact wpAny_truthy_bool ⟨H3,I3,q3⟩
theorem uV:(sizeLine:Nat)<2 ^ 63:=by rw [sizeLine_eq];decide
theorem jk:iB X (binaryOp .Add) (fun x y H Q=>∃ i j,x=.str i∧y=.str j∧i.length+j.length≤sizeLine∧Q (.str (i++j)) H):=by
 intro pins s σ H x y v u Q I rx ry h
 obtain⟨i,j,rfl,rfl,hz,q⟩:=h
 obtain⟨t,rfl⟩:=rx
 obtain⟨t',rfl⟩:=ry
 exact add_str (fun t' tk=>⟨.str (i++j),H,I.tok _,⟨_,rfl⟩,q⟩) hz
theorem vals1 {x:V}{us:List Value} (r:Vals [x] us):∃ u,us=[u]∧RelV x u:=by
 cases r with
 | cons r1 r2=>cases r2;exact⟨_,rfl,r1⟩
theorem vals2 {x y:V}{us:List Value} (r:Vals [x,y] us):∃ u w',us=[u,w']∧RelV x u∧RelV y w':=by
 cases r with
 | cons r1 r2 =>
   cases r2 with
   | cons r3 r4=>cases r4;exact⟨_,_,rfl,r1,r3⟩
end
end L2
namespace L2
open PySem PySem.Spec PyProof.Rows
structure Du (h:Heap) (x dx C:Addr) (mA:Str→Option Value):Prop where
 obj:h.get? x=some (PySem.W.instObj C dx)
 ns:h.Ns1 dx mA
 ne:dx≠x
theorem Hg {h:Heap}{dx:Addr}{mA:Str→Option Value} (n:h.Ns1 dx mA):∃ od,h.get? dx=some od∧∀ name,PySem.W.lookIn name od=some (mA name):=by
 obtain⟨o,es,ep,ho,hd,hk,_,hm⟩:=n
 refine⟨o,ho,fun name=>?_⟩
 have e:=hm name
 unfold nsFind findBy at e
 rw [← Array.find?_toList] at e
 unfold PySem.W.lookIn
 rw [hd]
 dsimp only
 split
 · rename_i y q
   rw [q] at e
   exact congrArg some e
 · rename_i q
   rw [q] at e
   have a:es.toList.any (·.refKey)=false:=by
     rw [List.any_eq_false]
     intro y hy
     obtain⟨z,t,hkey⟩:=hk y (Array.mem_toList_iff.mp hy)
     simp [DictEntry.refKey,hkey]
   have a':¬ es.toList.any (·.refKey)=true:=by rw [a];exact Bool.false_ne_true
   rw [if_neg a']
   exact congrArg some e
theorem Du.look {h:Heap}{x dx C:Addr}{mA:Str→Option Value} (I:Du h x dx C mA):∃ od,PySem.W.InstAt h x (PySem.W.instObj C dx) C (some od)∧∀ name,PySem.W.lookIn name od=some (mA name) :=
 let ⟨od,ho,hl⟩:=Hg I.ns
 ⟨od,⟨I.obj,rfl,rfl,ho⟩,hl⟩
section
variable {prog:Program}{w:World}{A:Around}{E:Value→Shared→Prop}{s:Shared}{K:PySem.W.Frag}{x dx C f:Addr}{mA:Str→Option Value}{name:Str}{v:Value}
theorem get_map {expr:Bool}{Q:Value→Shared→Prop} (X:K.In s.heap) (I:Du s.heap x dx C mA) (hg:PySem.W.plainGet K C name=true) (hh:PySem.W.hasDictIn K C=true)
   (ha:PySem.W.findIn K (.ref C) name=some none) (hv:mA name=some v) (hv':PySem.W.handedIn v=true) (h:Q v { s with toks:=s.toks+1 }) :
   wpAny (model prog w) A (getAttr (.ref x) name expr) Q E s:=by
 obtain⟨od,J,hl⟩:=I.look
 exact PySem.W.get_value X J (PySem.W.plainGet_of hg).1 (PySem.W.findObj_own hh ha rfl (by rw [hl,hv])) hv' h
theorem Jh {pl:Sem Bool}{Q:Value × List Value→Shared→Prop} (X:K.In s.heap) (I:Du s.heap x dx C mA) (hg:PySem.W.plainGet K C name=true)
   (hf:PySem.W.findIn K (.ref C) name=some (some (.ref f))) (ht:PySem.W.isFn K (.ref f)=true) (hv:mA name=none) (h:Q (.ref f,[.ref x]) s) :
   wpAny (model prog w) A (getMethod (.ref x) name pl) Q E s:=by
 obtain⟨od,J,hl⟩:=I.look
 exact PySem.W.method_fn X J (PySem.W.plainGet_of hg).1 (PySem.W.plainGet_of hg).2 hf (beq_iff_eq.mp ht) (by show (PySem.W.lookIn name od).map (·.isSome)=some false;rw [hl,hv];rfl) h
theorem Mz {ns:List Str}{Q:Unit→Shared→Prop} (X:K.In s.heap) (I:Du s.heap x dx C mA)
   (hs:PySem.W.findIn K (.ref C) "__setattr__" = some (some (.builtin "object.__setattr__"))) (hp:PySem.W.plainOver K C=true) (ht:PySem.W.takerIn K C name=some none) (hh:PySem.W.hasDictIn K C=true)
   (hw:PySem.Within mA ns) (hsz:ns.length≤sizeLine)
   (h:∀ h',Du h' x dx C (fun y=>if y=name then some v else mA y)→Heap.SameBut dx s.heap h'→Q () { s with heap:=h',toks:=s.toks+2 }) :
   wpAny (model prog w) A (setAttr (.ref x) name v) Q E s:=by
 obtain⟨od,J,hl⟩:=I.look
 refine PySem.W.set_plain X J hs (PySem.W.osa_open (s:={ s with toks:=s.toks+1 }) (r:=none) X J hp ht fun b=>?_)
 obtain⟨cd,hc,hd'⟩:=PySem.W.any_some hh
 have hx:s.heap.get? x=some ⟨.ref C,some dx,.plain,#[]⟩:=I.obj
 refine wpAny_bind (wpAny_pure (wpAny_bind (wpAny_bind (wpAny_loadPart hx (wpAny_bind (PySem.W.Looks.here (s:={ s with toks:=s.toks+1 }) (PySem.W.looks_clsIn X hc) ?_))))))
 rw [hd']
 refine wpAny_pure (a:=some dx) (wpAny_bind (wpAny_pure (wpAny_bind ?_)))
 refine wpAny_nsSet1 (s:={ s with toks:=s.toks+1 }) I.ns fun h' hn2 hs2=>?_
 obtain⟨oD,esD,epD,hoD,hdD,hcD⟩:=hn2.count (PySem.Within.cons name v hw)
 refine wpAny_bind (wpAny_lookBehind hoD (by rw [hdD];exact pastItsLine_dict (Nat.le_trans hcD (by rw [List.length_cons];omega))) ?_)
 exact wpAny_pure (h _ ⟨(hs2.2 _ (Ne.symm I.ne)).trans I.obj,hn2,I.ne⟩ hs2)
theorem Ji {R:Result→Shared→Prop}{vs:List Value}{kw:List (Str × Value)} (X:K.In s.heap) (hm:PySem.W.makesIn K C=true)
   (hi:PySem.W.findIn K (.ref C) "__init__" = some (some (.ref f))) (hf:PySem.W.typeIn K (.ref f)=some (.type "function"))
   (h:codeAny (model prog w) (A.under (.builtin "type.__call__" ⟨.ref C::vs,kw⟩)) (.call (.ref f) ⟨.ref (s.heap.objs.size+1)::vs,kw⟩) (PySem.W.InitBack (s.heap.objs.size+1) R)
     { s with heap:=(s.heap.push PySem.W.emptyDict).push (PySem.W.instObj C s.heap.objs.size) }) :
   codeAny (model prog w) A (.call (.ref C) ⟨vs,kw⟩) R s:=by
 obtain⟨hh,g,d,t,os⟩:=s
 exact PySem.W.make_core (PySem.W.makes_of X hm) (PySem.W.looks_findIn X hi) (fun self=>PySem.W.bind_fn X self hf) (.inl rfl) h
end
def lu (f:Str) (v:V):List (Str × V)→List (Str × V)
 | []=>[(f,v)]
 | (g,x)::r=>if g=f then (g,v)::r else (g,x)::lu f v r
theorem tK (f g:Str) (v:V):∀ fs:List (Str × V),(lu f v fs).lookup g=if g=f then some v else fs.lookup g
 | []=>by
   show List.lookup g [(f,v)]=_
   by_cases h:g=f
   · have hb:(g == f)=true:=beq_iff_eq.mpr h
     simp only [List.lookup,hb,if_pos h]
   · have hb:(g == f)=false:=beq_eq_false_iff_ne.mpr h
     simp only [List.lookup,hb,if_neg h]
 | (k,x)::r=>by
   have ih:=tK f g v r
   rw [show lu f v ((k,x)::r)=(if k=f then (k,v)::r else (k,x)::lu f v r) from rfl]
   by_cases hk:k=f
   · rw [if_pos hk]
     by_cases h:g=k
     · have hb:(g == k)=true:=beq_iff_eq.mpr h
       simp only [List.lookup,hb,if_pos (h.trans hk)]
     · have hb:(g == k)=false:=beq_eq_false_iff_ne.mpr h
       simp only [List.lookup,hb,if_neg (fun e:g=f=>h (e.trans hk.symm))]
   · rw [if_neg hk]
     by_cases h:g=k
     · have hb:(g == k)=true:=beq_iff_eq.mpr h
       simp only [List.lookup,hb,if_neg (fun e:g=f=>hk (h.symm.trans e))]
     · have hb:(g == k)=false:=beq_eq_false_iff_ne.mpr h
       simp only [List.lookup,hb]
       exact ih
theorem rG (f:Str) (v:V):∀ fs:List (Str × V),f∈(lu f v fs).map (·.1)∧∀ g,g∈fs.map (·.1)→g∈(lu f v fs).map (·.1)
 | []=>⟨by simp [lu],fun g h=>by simp at h⟩
 | (k,x)::r=>by
   obtain⟨i1,i2⟩:=rG f v r
   rw [show lu f v ((k,x)::r)=(if k=f then (k,v)::r else (k,x)::lu f v r) from rfl]
   by_cases hk:k=f
   · rw [if_pos hk]
     subst hk
     exact⟨by simp,fun g h=>by simpa using h⟩
   · rw [if_neg hk]
     refine⟨?_,fun g h=>?_⟩
     · rw [List.map_cons]
       exact List.mem_cons_of_mem _ i1
     · rw [List.map_cons] at h ⊢
       rcases List.mem_cons.mp h with e | e
       · exact List.mem_cons.mpr (.inl e)
       · exact List.mem_cons_of_mem _ (i2 g e)
theorem tL (f:Str) (v:V):∀ fs:List (Str × V),(lu f v fs).length≤fs.length+1
 | []=>by simp [lu]
 | (k,x)::r=>by
   have ih:=tL f v r
   rw [show lu f v ((k,x)::r)=(if k=f then (k,v)::r else (k,x)::lu f v r) from rfl]
   by_cases hk:k=f
   · rw [if_pos hk,List.length_cons,List.length_cons];omega
   · rw [if_neg hk,List.length_cons,List.length_cons];omega
theorem mL.some_of {v:V}{o:Option Value} (r:mL (some v) o):∃ u,o=some u∧RelV v u:=by
 cases o with
 | none=>exact (show False from r).elim
 | some u=>exact⟨u,rfl,r⟩
theorem mL.none_of {o:Option Value} (r:mL none o):o=none:=by
 cases o with
 | none=>rfl
 | some u=>exact (show False from r).elim
theorem Hh {v:V}{u:Value} (r:RelV v u):PySem.W.handedIn u=true:=by
 cases v with
 | non=>cases (show u=Value.none from r);rfl
 | bl b=>cases (show u=Value.bool b from r);rfl
 | int i=>obtain⟨t,e⟩:=(show ∃ t,u=Value.int i t from r);cases e;rfl
 | str x=>obtain⟨t,e⟩:=(show ∃ t,u=Value.str x t from r);cases e;rfl
 | Gb b=>obtain⟨t,e⟩:=(show ∃ t,u=Value.bytes b t from r);cases e;rfl
 | flt b=>obtain⟨t,e⟩:=(show ∃ t,u=Value.float b t from r);cases e;rfl
 | ref a=>cases (show u=Value.ref a from r);rfl
 | ty n=>cases (show u=Value.type n from r);rfl
section
variable {P:Program}{w:World}{H H':Hp}{h h':Heap}{a C dx:Addr}{fs fs':List (Str × V)}
theorem uH (hok:mW P w H h) (e:H a=some (.ins C dx fs)):∃ mA,Du h a dx C mA∧(∀ f,mL (fs.lookup f) (mA f))∧PySem.Within mA (fs.map (·.1))∧fs.length≤1000∧H dx=some (.own a):=by
 obtain⟨d,z,ne,ob,mA,n,r,q⟩:=(show bC P w H h a (.ins C dx fs) from hok a _ e)
 exact⟨mA,⟨ob,n,ne⟩,r,q,z,d⟩
end
structure ym (K:PySem.W.Frag) (C:Addr):Prop where
 pg:PySem.W.plainGet K C Str.empty=true
 hd:PySem.W.hasDictIn K C=true
 po:PySem.W.plainOver K C=true
 sa:PySem.W.findIn K (.ref C) "__setattr__" = some (some (.builtin "object.__setattr__"))
theorem ym.get {K:PySem.W.Frag}{C:Addr} (c:ym K C) (f:Str):PySem.W.plainGet K C f=true:=c.pg
def aW (K:PySem.W.Frag) (C:Addr) (f:Str):Prop:=PySem.W.findIn K (.ref C) f=some none
theorem aW.taker {K:PySem.W.Frag}{C:Addr}{f:Str} (n:aW K C f):PySem.W.takerIn K C f=some none:=by
 unfold PySem.W.takerIn
 rw [show PySem.W.findIn K (.ref C) f=some none from n]
 rfl
structure Con (K:PySem.W.Frag) (C:Addr) (f:Str) (v:V) (u:Value):Prop where
 at_:PySem.W.findIn K (.ref C) f=some (some u)
 rel:RelV v u
 get:PySem.W.specialIn K u "__get__" = some none
 cp:PySem.W.copiedNames.contains f=false
structure Meth (K:PySem.W.Frag) (C:Addr) (m:Str) (f:Addr):Prop where
 at_:PySem.W.findIn K (.ref C) m=some (some (.ref f))
 fn:PySem.W.isFn K (.ref f)=true
 kp:PySem.W.keepIn K (.ref f)=true
section
variable {X:Cx}{pins:List (Addr × Obj)}{σ:St}{H:Hp}{s:Shared}{a C dx:Addr}{fs:List (Str × V)}{f:Str}{v:V}{A:Around}{E:Value→Shared→Prop}
theorem Dv {b:Bool}{Q:Value→Shared→Prop} (I:Inv X pins σ H s) (e:H a=some (.ins C dx fs)) (c:ym X.K C) (n:aW X.K C f) (l:fs.lookup f=some v)
   (h:∀ u s',Inv X pins σ H s'→RelV v u→Q u s'):wpAny (model X.prog X.w) A (getAttr (.ref a) f b) Q E s:=by
 obtain⟨mA,O,r,_,_,_⟩:=uH I.hok e
 obtain⟨u,hu,ru⟩:=mL.some_of (v:=v) (o:=mA f) (by rw [← l];exact r f)
 exact get_map I.uO O (c.get f) c.hd n hu (Hh ru) (h u _ (I.tok _) ru)
theorem pN {m:Str}{g:Addr}{pl:Sem Bool}{Q:Value × List Value→Shared→Prop} (I:Inv X pins σ H s) (e:H a=some (.ins C dx fs)) (c:ym X.K C) (k:Meth X.K C m g) (l:fs.lookup m=none)
   (h:Q (.ref g,[.ref a]) s):wpAny (model X.prog X.w) A (getMethod (.ref a) m pl) Q E s:=by
 obtain⟨mA,O,r,_,_,_⟩:=uH I.hok e
 have hn:mA m=none:=mL.none_of (by rw [← l];exact r m)
 exact Jh I.uO O (c.get m) k.at_ k.fn hn h
theorem Dw {y:V}{u:Value}{Q:Unit→Shared→Prop} (I:Inv X pins σ H s) (e:H a=some (.ins C dx fs)) (c:ym X.K C) (n:aW X.K C f) (hl:fs.length<1000) (ry:RelV y u)
   (h:∀ s',Inv X pins σ (upd H a (.ins C dx (lu f y fs))) s'→Q () s'):wpAny (model X.prog X.w) A (setAttr (.ref a) f u) Q E s:=by
 obtain⟨mA,O,r,wi,_,ho⟩:=uH I.hok e
 have hz:(fs.map (·.1)).length≤sizeLine:=by rw [List.length_map,sizeLine_eq];omega
 refine Mz I.uO O c.sa c.po n.taker c.hd wi hz fun h' O' sb=>h _ ?_
 have hd:∃ o,h'.get? dx=some o:=let ⟨o,_,_,e',_⟩:=O'.ns; ⟨o,e'⟩
 refine I.write (x:=a) (e:=dx) (by rw [e];exact True.intro) (.inr ho) (fun b q hb z=>(sb.2 b hb).trans z) hd ?_
 refine⟨by rw [zG O.ne];exact ho,?_,O.ne,O'.obj,_,O'.ns,fun g=>?_,fun g hg=>?_⟩
 · have:=tL f y fs;omega
 · show mL ((lu f y fs).lookup g) (if g=f then some u else mA g)
   rw [tK]
   by_cases q:g=f
   · rw [if_pos q,if_pos q];exact ry
   · rw [if_neg q,if_neg q];exact r g
 · by_cases q:g=f
   · rw [q];exact (rG f y fs).1
   · refine (rG f y fs).2 g (wi g fun z=>hg ?_)
     show (if g=f then some u else mA g)=none
     rw [if_neg q];exact z
theorem Inv.made (I:Inv X pins σ H s):Inv X pins σ (upd (upd H s.heap.objs.size (.own (s.heap.objs.size+1))) (s.heap.objs.size+1) (.ins C s.heap.objs.size []))
   { s with heap:=(s.heap.push PySem.W.emptyDict).push (PySem.W.instObj C s.heap.objs.size) }:=by
 have e1:(s.heap.push PySem.W.emptyDict).get? s.heap.objs.size=some PySem.W.emptyDict:=Heap.get?_push_size s.heap rfl
 have e2:((s.heap.push PySem.W.emptyDict).push (PySem.W.instObj C s.heap.objs.size)).get? (s.heap.objs.size+1)=some (PySem.W.instObj C s.heap.objs.size):=by
   have:=Heap.get?_push_size (s.heap.push PySem.W.emptyDict) (o:=PySem.W.instObj C s.heap.objs.size) rfl
   rwa [Heap.size_push] at this
 have e3:(s.heap.push PySem.W.emptyDict).Ns s.heap.objs.size (fun _=>none):=⟨PySem.W.emptyDict,#[],_,e1,rfl,(fun e he=>absurd he (by simp)),fun _=>rfl⟩
 have I1:=I.laid (a:=s.heap.objs.size) (o:=.own (s.heap.objs.size+1)) (h':=s.heap.push PySem.W.emptyDict) (t':=s.toks) (fun b u q=>Heap.get?_push_of_some _ q) (Nat.le_refl _) ⟨_,e1⟩
 refine I1.laid (a:=s.heap.objs.size+1) (o:=.ins C s.heap.objs.size []) (t':=s.toks) (fun b u q=>Heap.get?_push_of_some _ q) (Nat.le_of_eq (Heap.size_push _ _)) ?_
 have ne:s.heap.objs.size≠s.heap.objs.size+1:=Nat.ne_of_lt (Nat.lt_succ_self _)
 refine⟨by rw [zG ne,zB],Nat.zero_le _,ne,e2,fun _=>none,(Heap.Ns1.of_empty e3).at fun o q=>Heap.get?_push_of_some _ q,fun _=>True.intro,fun y hy=>absurd rfl hy⟩
theorem MF {prog:Program}{w:World}{env:Env}{e:Expr}{f:Str}{pos:Pos}{s:Shared}{Q:Value→Shared→Prop} (hb:attributeBase e f env (eval e env)=eval e env)
   (h:wpAny (model prog w) A (eval e env) (fun o s₁=>wpAny (model prog w) A (getAttr o f true) Q E s₁) E s):wpAny (model prog w) A (eval (.Attribute e f pos) env) Q E s :=
 Attribute_any_ h (by rw [arm_eval_Attribute,hb])
end
def aeG (K:PySem.W.Frag) (ta:TE) (f:Str):TE:=fun σ H Q=>ta σ H fun x H1=>∃ a C dx fs v,x=.ref a∧H1 a=some (.ins C dx fs)∧ym K C∧aW K C f∧fs.lookup f=some v∧Q v H1
def aeH (K:PySem.W.Frag) (ta tv:TE) (f:Str):TS:=fun D σ H=>tv σ H fun y H1=>ta σ H1 fun x H2=>∃ a C dx fs,x=.ref a∧H2 a=some (.ins C dx fs)∧ym K C∧aW K C f∧fs.length<1000 ∧
 D.nx σ (upd H2 a (.ins C dx (lu f y fs)))
section
variable {X:Cx}{o e value:Expr}{f:Str}{pos pos' tpos:Pos}{ta tv:TE}
theorem zK (he:PE X e ta) (hb:attributeBase e f X.env (eval e X.env)=eval e X.env):PE X (.Attribute e f pos) (aeG X.K ta f):=by
 intro pins s σ H Q I h
 refine MF hb (dh (he pins s σ H _ I h) fun u s1 zq=>?_)
 obtain⟨x,H1,I1,rx,a,C,dx,fs,v,ex,ea,c,n,l,q⟩:=zq
 subst ex
 obtain rfl:u=Value.ref a:=rx
 exact Dv I1 ea c n l fun u' s2 I2 ru=>⟨v,H1,I2,ru,q⟩
theorem yG (ha:PE X o ta) (hv:PE X value tv) (hs:swapsWith value (some (.Attribute o f pos')) pos.line X.env=pure false):PS X (.Assign [.Attribute o f pos'] value pos) (aeH X.K ta tv f):=by
 intro pins s σ H D I h
 refine plainObj_wpAny_Assign_Attribute (dh (hv pins s σ H _ I h) fun u s1 ⟨y,H1,I1,ry,q⟩=>dh (ha pins s1 σ H1 _ I1 q) fun ov s2 ⟨x,H2,I2,rx,a,C,dx,fs,ex,ea,c,n,l,q2⟩=>?_) hs
 subst ex
 obtain rfl:ov=Value.ref a:=rx
 exact Dw I2 ea c n l ry fun s3 I3=>⟨σ,_,I3,q2⟩
end
section
variable {X:Cx}{pins:List (Addr × Obj)}{σ:St}{H:Hp}{s:Shared}{A:Around}{E:Value→Shared→Prop}{Q:Value→Shared→Prop}{c:Value}{b:Bool}
inductive aN (K:PySem.W.Frag) (H:Hp):V→Value→Prop where
 | non:aN K H .non (.type "NoneType")
 | bl (x:Bool):aN K H (.bl x) (.type "bool")
 | int (i:Int):aN K H (.int i) (.type "int")
 | str (x:Str):aN K H (.str x) (.type "str")
 | flt (x:UInt64):aN K H (.flt x) (.type "float")
 | lst {a:Addr}{xs:List V} (e:H a=some (.lst xs)):aN K H (.ref a) (.type "list")
 | ji {a:Addr}{o:Obj}{xs:List V} (e:H a=some (.ji o (.lst xs))):aN K H (.ref a) (.type "list")
 | tup {a:Addr}{xs:List V} (e:H a=some (.tup xs)):aN K H (.ref a) (.type "tuple")
 | dK {a:Addr}{kvs:List (Key × V)} (e:H a=some (.dK kvs)):aN K H (.ref a) (.type "dict")
 | dT {a:Addr}{kvs:List (List Key × V)} (e:H a=some (.dT kvs)):aN K H (.ref a) (.type "dict")
 | ins {a C dx:Addr}{fs:List (Str × V)} (e:H a=some (.ins C dx fs)) (cl:ym K C) (ha:PySem.W.findIn K (.ref C) "__class__" = some (some (.builtin "object.__class__")))
     (hn:PySem.W.specialIn K (.builtin "object.__class__") "__get__" = some (some (.builtin "getset_descriptor.__get__"))) (htk:PySem.W.takesIn K (.builtin "object.__class__")=some true)
     (hm:PySem.W.mroIn K C (.type "object")=some true):aN K H (.ref a) (.ref C)
end
end L2
namespace L2
open PySem PySem.Spec PyProof.Rows
structure dq (k:Nat) (A:Around):Prop where
 hd:A.handled=none
 dp:A.depth+3*k+5<recursionLimit
 un:A.units+16*k+200<cLine
theorem dq.mono {j k:Nat}{A:Around} (r:dq k A) (h:j≤k):dq j A:=⟨r.hd,by have:=r.dp;omega,by have:=r.un;omega⟩
theorem dq.deeper {k:Nat}{A:Around} (r:dq (k+1) A) (env:Env):dq k (A.deeper env) :=
 ⟨r.hd,by have:=r.dp;show A.depth+1+3*k+5<_;omega,by have:=r.un;show A.units+3+16*k+200<_;omega⟩
theorem dq.in1 {k:Nat}{A:Around} (r:dq (k+1) A):dq k A.in1 :=
 ⟨r.hd,by have:=r.dp;show A.depth+3*k+5<_;omega,by have:=r.un;show A.units+1+16*k+200<_;omega⟩
theorem Dy {A:Around}{C:Addr}{us:List Value}{kw:List (Str × Value)}:(A.under (.builtin "type.__call__" ⟨.ref C::us,kw⟩)).depth=A.depth+1:=by
 first | rfl | simp [Around.under,Code.weight,Code.isCreation,Code.isGuard,Code.isCaller,Code.frames,Code.isFrame,guardIds]
theorem Dz {A:Around}{C:Addr}{us:List Value}{kw:List (Str × Value)}:(A.under (.builtin "type.__call__" ⟨.ref C::us,kw⟩)).units=A.units+1:=by
 first | rfl | simp [Around.under,Code.cUnits,Code.frames,Code.isFrame]
theorem dq.make {k:Nat}{A:Around} (r:dq (k+1) A) (C:Addr) (us:List Value) (kw:List (Str × Value)):dq k (A.under (.builtin "type.__call__" ⟨.ref C::us,kw⟩)) :=
 ⟨r.hd,by have:=r.dp;rw [Dy];omega,by have:=r.un;rw [Dz];omega⟩
theorem dq.depth {k:Nat}{A:Around} (r:dq k A):A.depth<recursionLimit:=by have:=r.dp;omega
theorem dq.units {k:Nat}{A:Around} (r:dq k A):A.units+64<cLine:=by have:=r.un;omega
def MJ:TA:=fun _ H Q=>Q [] H
def Jj (ta:TE) (tr:TA):TA:=fun σ H Q=>ta σ H fun x H1=>tr σ H1 fun xs H2=>Q (x::xs) H2
section
variable {X:Cx}{e:Expr}{es:List Expr}{te:TE}{t:TA}{pos:Pos}
theorem zD:PA X [] MJ:=fun _ _ _ _ H Q I h=>Calls.spliced_nil ⟨[],H,I,.nil,h⟩
theorem zA (ha:PE X e te) (hr:PA X es t) (hs:starEach (e::es) X.env=(false,eval e X.env)::starEach es X.env:=by rfl):PA X (e::es) (Jj te t):=by
 intro pos pins s σ H Q I h
 rw [hs]
 show wpAny _ _ (spliced ((false,eval e X.env)::backTo pos (starEach es X.env))) _ _ s
 refine Calls.spliced_cons (dh (ha pins s σ H _ I h) fun u s1 zq=>?_)
 obtain⟨x,H1,I1,r1,q1⟩:=zq
 exact dh (hr pos pins s1 σ H1 _ I1 q1) fun us s2 ⟨xs,H2,I2,r2,q2⟩=>⟨x::xs,H2,I2,.cons r1 r2,q2⟩
def aeI (t:TA):TE:=fun σ H Q=>t σ H fun xs H1=>xs.length≤sizeLine∧∀ p,H1 p=none→Q (.ref p) (upd H1 p (.tup xs))
def aeJ (t:TA):TE:=fun σ H Q=>t σ H fun xs H1=>xs.length≤sizeLine∧∀ p,H1 p=none→Q (.ref p) (upd H1 p (.lst xs))
theorem yN {x1} (h:PA X es t):PE X (.Tuple es x1 pos) (aeI t):=by
 intro pins s σ H Q I hq
 refine wpAny_Tuple_spliced (dh (h pos pins s σ H _ I hq) fun us s1 ⟨xs,H1,I1,r,z,q⟩=>⟨by rw [← r.length];exact z,?_⟩)
 have hf:H1 s1.heap.objs.size=none:=I1.hok.fresh (Nat.le_refl _)
 refine⟨.ref s1.heap.objs.size,upd H1 s1.heap.objs.size (.tup xs),I1.laid (t':=s1.toks) (fun b u e=>Heap.get?_push_of_some _ e) (Nat.le_refl _) ?_,rfl,q _ hf⟩
 exact⟨z,us,r,⟨_,Heap.get?_push_size _ rfl,rfl,_,rfl⟩⟩
theorem yR (h:PA X es t):PE X (.List es pos) (aeJ t):=by
 intro pins s σ H Q I hq
 refine wpAny_List_spliced (dh (h pos pins s σ H _ I hq) fun us s1 ⟨xs,H1,I1,r,z,q⟩=>⟨by rw [← r.length];exact z,?_⟩)
 have hf:H1 s1.heap.objs.size=none:=I1.hok.fresh (Nat.le_refl _)
 refine⟨.ref s1.heap.objs.size,upd H1 s1.heap.objs.size (.lst xs),I1.laid (t':=s1.toks) (fun b u e=>Heap.get?_push_of_some _ e) (Nat.le_refl _) ?_,rfl,q _ hf⟩
 exact⟨z,us,0,r,Heap.get?_push_size _ rfl⟩
end
abbrev Sp:=List V→Hp→VK→XK→Prop
abbrev wC:=List Env→Hp→Shared→XK→Value→Shared→Prop
structure qx (P:Program) (w:World) (K:PySem.W.Frag) (mg:Str→Option Value) (base:Heap) (A:Around) (outer:List Env) (s:Shared) (H:Hp):Prop where
 frames:A.frames=some outer
 mod:Mod K mg base
 bs:∀ b o,base.get? b=some o→s.heap.get? b=some o∧H b=none
 G8:base.objs.size≤s.heap.objs.size
 mX:s.heap.FunFrames base outer
 Iw:∀ b∈frs outer,H b=none
 hok:mW P w H s.heap
 bare:AllBare s.gens
def CE (outer:List Env) (P:Program) (w:World) (H:Hp) (s:Shared) (Q:VK) (u:Value) (s':Shared):Prop :=
 ∃ v H',s'.os=s.os∧AllBare s'.gens∧Un (frs outer) [] H H' s.heap s'.heap∧mW P w H' s'.heap∧RelV v u∧Q v H'
def CR (CX:wC) (outer:List Env) (P:Program) (w:World) (H:Hp) (s:Shared) (Q:VK) (E:XK) (r:Result) (s':Shared):Prop :=
 match r with
 | .ok (.ret u)=>CE outer P w H s Q u s'
 | .ok _=>False
 | .error e=>CX outer H s E e s'
structure bz (P:Program) (w:World) (K:PySem.W.Frag) (mg:Str→Option Value) (base:Heap) (CX:wC) (k:Nat) (f:Addr) (fd:FuncData) (ps:List Str) (sp:Sp):Prop where
 len:∀ vs H Q E,sp vs H Q E→vs.length=ps.length
 run:∀ (A:Around) (outer:List Env) (s:Shared) (H:Hp) (args:Args) (us:List Value) (vs:List V) (Q:VK) (E:XK),dq k A→qx P w K mg base A outer s H→BindsTo s fd args (ps.zip us)→Vals vs us→sp vs H Q E →
   codeAny (model P w) A (.call (.ref f) args) (CR CX outer P w H s Q E) s
theorem bz.mono {P:Program}{w:World}{K:PySem.W.Frag}{mg:Str→Option Value}{base:Heap}{CX:wC}{j k:Nat}{f:Addr}{fd:FuncData}{ps:List Str}{sp:Sp} (F:bz P w K mg base CX j f fd ps sp) (h:j≤k) :
   bz P w K mg base CX k f fd ps sp:=⟨F.len,fun A outer s H args us vs Q E hr=>F.run A outer s H args us vs Q E (hr.mono h)⟩
theorem bz.imp {P:Program}{w:World}{K:PySem.W.Frag}{mg:Str→Option Value}{base:Heap}{CX:wC}{k:Nat}{f:Addr}{fd:FuncData}{ps:List Str}{sp VJ:Sp} (F:bz P w K mg base CX k f fd ps sp)
   (h:∀ vs H Q E,VJ vs H Q E→sp vs H Q E):bz P w K mg base CX k f fd ps VJ :=
 ⟨fun vs H Q E q=>F.len vs H Q E (h _ _ _ _ q),fun A outer s H args us vs Q E hr he hb hv hs=>F.run A outer s H args us vs Q E hr he hb hv (h _ _ _ _ hs)⟩
theorem qx.make {P:Program}{w:World}{K:PySem.W.Frag}{mg:Str→Option Value}{base:Heap}{A:Around}{outer:List Env}{s:Shared}{H:Hp} (e:qx P w K mg base A outer s H) (C:Addr) (us:List Value) (kw:List (Str × Value)) :
   qx P w K mg base (A.under (.builtin "type.__call__" ⟨.ref C::us,kw⟩)) outer s H:=⟨by first | exact e.frames | (simpa [Around.under,Code.envs,Code.isFrame,pushEnvs] using e.frames),e.mod,e.bs,e.G8,e.mX,e.Iw,e.hok,e.bare⟩
theorem qx.in1 {P:Program}{w:World}{K:PySem.W.Frag}{mg:Str→Option Value}{base:Heap}{A:Around}{outer:List Env}{s:Shared}{H:Hp} (e:qx P w K mg base A outer s H) :
   qx P w K mg base A.in1 outer s H:=⟨e.frames,e.mod,e.bs,e.G8,e.mX,e.Iw,e.hok,e.bare⟩
section
variable {X:Cx}{pins:List (Addr × Obj)}{σ:St}{H:Hp}{s s':Shared}
theorem Inv.env0 (I:Inv X pins σ H s):qx X.prog X.w X.K X.mg X.base X.A X.stack s H :=
 ⟨I.ok.frames,I.ok.mod,I.bs,Nat.le_trans I.ok.G8 I.sz,I.stack,I.yh,I.hok,I.bare⟩
theorem Inv.after {Q:VK}{u:Value} (I:Inv X pins σ H s) (h:CE X.stack X.prog X.w H s Q u s'):EP X pins σ Q u s':=by
 obtain⟨v,H',os,bare,un,hok,r,q⟩:=h
 obtain⟨hh,g,d,t,os'⟩:=s'
 obtain rfl:os'=s.os:=os
 exact⟨v,H',I.call (h':=hh) (g':=g) (d':=d) (t':=t) (ch:=[]) un hok bare (fun b z=>absurd z (by simp)),r,q⟩
end
def Px (sp:Sp) (pG:List V) (E:XK) (t:TA):TE:=fun σ H Q=>t σ H fun vs H1=>sp (vs++pG) H1 Q E
def Py (C:Addr) (sp:Sp) (pG:List V) (E:XK) (t:TA):TE:=fun σ H Q=>t σ H fun vs H1=>∀ x dx,H1 x=none→H1 dx=none→dx≠x →
 sp (.ref x::(vs++pG)) (upd (upd H1 dx (.own x)) x (.ins C dx [])) (fun v H2=>v=.non∧Q (.ref x) H2) E
def Binds (K:PySem.W.Frag) (fd:FuncData) (ps:List Str) (ds:List Value):Prop :=
 ∀ (s:Shared) (us:List Value),K.In s.heap→(us++ds).length=ps.length→BindsTo s fd ⟨us,[]⟩ (ps.zip (us++ds))
theorem Binds.all {K:PySem.W.Frag}{fd:FuncData}{ps:List Str} (h:∀ us:List Value,us.length=ps.length→bindArgs fd ⟨us,[]⟩=pure (ps.zip us)):Binds K fd ps []:=fun s us _ hl=>by
 rw [List.append_nil] at hl ⊢
 exact .of_eq (h us hl)
def Passes (CX:wC) (X:Cx) (E:XK):Prop:=∀ (pins:List (Addr × Obj)) (σ:St) (H:Hp) (s:Shared) (e:Value) (s':Shared),Inv X pins σ H s→CX X.stack H s E e s'→X.xe e s'
section
variable {X:Cx}{CX:wC}{k:Nat}{f C:Addr}{fd:FuncData}{ps:List Str}{sp:Sp}{pG:List V}{ds:List Value}{E:XK}{x m:Str}{p pos apos:Pos}{e o:Expr}{es:List Expr}{ta:TE}{t:TA}
theorem yo {pins:List (Addr × Obj)}{σ:St}{H:Hp}{s:Shared}{Q:VK}{us:List Value}{vs:List V} (F:bz X.prog X.w X.K X.mg X.base CX k f fd ps sp) (hr:dq k X.A) (hb:Binds X.K fd ps ds) (hd:Vals pG ds) (hx:Passes CX X E)
   (I:Inv X pins σ H s) (r:Vals vs us) (h:sp (vs++pG) H Q E):wpAny (model X.prog X.w) X.A (call (.ref f) us) (EP X pins σ Q) X.xe s:=by
 have r2:Vals (vs++pG) (us++ds):=r.append hd
 have hl:(us++ds).length=ps.length:=by rw [← r2.length];exact F.len _ _ _ _ h
 refine wpAny_call (codeAny_mono (F.run X.A X.stack s H ⟨us,[]⟩ (us++ds) (vs++pG) Q E hr I.env0 (hb s us I.uO hl) r2 h) fun r s' hq=>?_)
 cases r with
 | error e=>exact hx pins σ H s e s' I hq
 | ok fl =>
   cases fl with
   | ret u=>exact I.after hq
   | next=>exact False.elim hq
   | brk=>exact False.elim hq
   | cont=>exact False.elim hq
theorem yF (F:bz X.prog X.w X.K X.mg X.base CX k f fd ps sp) (hr:dq k X.A) (hg:Gl X x) (hm:X.mg x=some (.ref f)) (hk:PySem.W.keepIn X.K (.ref f)=true) (hb:Binds X.K fd ps ds) (hd:Vals pG ds) (hx:Passes CX X E)
   (ha:PA X (e::es) t) (hdb:(x == ("__debug__":Str))=false:=by decide) (he:starEach (e::es) X.env=(false,eval e X.env)::starEach es X.env:=by rfl) (hpl:(backTo pos (starEach es X.env)).any (·.1)=false:=by rfl) :
   PE X (.Call (.Name x p) (e::es) [] pos) (Px sp pG E t):=by
 intro pins s σ H Q I h
 refine wpAny_Call_Name_kw (oR I hg hm ?_ hdb)
 refine PySem.W.callWith_K (h₀:=X.base) I.ok.mod.Pu hk (dh (ha pos pins s σ H _ I h) fun us s1 ⟨vs,H1,I1,r,q⟩=>⟨I1.uO,?_⟩) he hpl
 exact yo F hr hb hd hx I1 r q
structure Mk (K:PySem.W.Frag) (C f:Addr):Prop where
 makes:PySem.W.makesIn K C=true
 init:PySem.W.findIn K (.ref C) "__init__" = some (some (.ref f))
 fn:PySem.W.isFn K (.ref f)=true
 kp:PySem.W.keepIn K (.ref C)=true
theorem Bf {pins:List (Addr × Obj)}{σ:St}{H:Hp}{s:Shared}{Q:VK}{us:List Value}{vs:List V} (M:Mk X.K C f) (F:bz X.prog X.w X.K X.mg X.base CX k f fd ps sp) (hr:dq (k+1) X.A) (hb:Binds X.K fd ps ds) (hd:Vals pG ds)
   (hx:Passes CX X E) (I:Inv X pins σ H s) (r:Vals vs us)
   (h:∀ x dx,H x=none→H dx=none→dx≠x→sp (.ref x::(vs++pG)) (upd (upd H dx (.own x)) x (.ins C dx [])) (fun v H2=>v=.non∧Q (.ref x) H2) E) :
   wpAny (model X.prog X.w) X.A (call (.ref C) us) (EP X pins σ Q) X.xe s:=by
 have hq:=h (s.heap.objs.size+1) s.heap.objs.size (I.hok.fresh (Nat.le_succ _)) (I.hok.fresh (Nat.le_refl _)) (Nat.ne_of_lt (Nat.lt_succ_self _))
 have I2:=Inv.made (C:=C) I
 have r2:Vals (V.ref (s.heap.objs.size+1)::(vs++pG)) (Value.ref (s.heap.objs.size+1)::(us++ds)):=.cons rfl (r.append hd)
 have hl:(Value.ref (s.heap.objs.size+1)::us++ds).length=ps.length:=by
   have e:=r2.length
   rw [F.len _ _ _ _ hq] at e
   exact e.symm
 refine wpAny_call (Ji (f:=f) I.uO M.makes M.init (beq_iff_eq.mp M.fn) (codeAny_mono (F.run _ X.stack _ _ ⟨Value.ref (s.heap.objs.size+1)::us,[]⟩ (Value.ref (s.heap.objs.size+1)::(us++ds)) _ _ E (hr.make C us [])
   (I2.env0.make C us []) (hb _ (Value.ref (s.heap.objs.size+1)::us) I2.uO hl) r2 hq) fun r s' hq'=>?_))
 cases r with
 | error e=>exact hx pins σ _ _ e s' I2 hq'
 | ok fl =>
   cases fl with
   | ret u =>
     obtain⟨v,H',I3,rv,ev,q3⟩:=I2.after hq'
     subst ev
     exact⟨rv,⟨V.ref (s.heap.objs.size+1),H',I3,rfl,q3⟩⟩
   | next=>exact False.elim hq'
   | brk=>exact False.elim hq'
   | cont=>exact False.elim hq'
theorem gR (M:Mk X.K C f) (F:bz X.prog X.w X.K X.mg X.base CX k f fd ps sp) (hr:dq (k+1) X.A) (hg:Gl X x) (hm:X.mg x=some (.ref C)) (hb:Binds X.K fd ps ds) (hd:Vals pG ds) (hx:Passes CX X E)
   (ha:PA X (e::es) t) (hdb:(x == ("__debug__":Str))=false:=by decide) (he:starEach (e::es) X.env=(false,eval e X.env)::starEach es X.env:=by rfl) (hpl:(backTo pos (starEach es X.env)).any (·.1)=false:=by rfl) :
   PE X (.Call (.Name x p) (e::es) [] pos) (Py C sp pG E t):=by
 intro pins s σ H Q I h
 refine wpAny_Call_Name_kw (oR I hg hm ?_ hdb)
 refine PySem.W.callWith_K (h₀:=X.base) I.ok.mod.Pu M.kp (dh (ha pos pins s σ H _ I h) fun us s1 ⟨vs,H1,I1,r,q⟩=>⟨I1.uO,?_⟩) he hpl
 exact Bf M F hr hb hd hx I1 r q
theorem Jk (M:Mk X.K C f) (F:bz X.prog X.w X.K X.mg X.base CX k f fd ps sp) (hr:dq (k+1) X.A) (hg:Gl X x) (hm:X.mg x=some (.ref C)) (hb:Binds X.K fd ps ds) (hd:Vals pG ds) (hx:Passes CX X E)
   (hdb:(x == ("__debug__":Str))=false:=by decide):PE X (.Call (.Name x p) [] [] pos) (Py C sp pG E MJ):=by
 intro pins s σ H Q I h
 refine wpAny_Call_Name_kw (oR I hg hm ?_ hdb)
 exact PySem.W.callWith_K0 I.uO M.kp (Bf (us:=[]) M F hr hb hd hx I .nil h)
end
section
variable {X:Cx}{CX:wC}{k:Nat}{f C:Addr}{fd:FuncData}{ps ks:List Str}{sp:Sp}{E:XK}{x m:Str}{p pos apos anl:Pos}{e o:Expr}{es:List Expr}{kws:List Keyword}{te ta:TE}{t tk:TA}{nm:Option Str}
structure aeK (K:PySem.W.Frag) (fd:FuncData) (ps ks:List Str) (g:List Value→List Value→List Value) (gV:List V→List V→List V):Prop where
 to:∀ (s:Shared) (us ws:List Value),K.In s.heap→(g us ws).length=ps.length→BindsTo s fd ⟨us,ks.zip ws⟩ (ps.zip (g us ws))
 rel:∀ {vs:List V}{us:List Value}{zs:List V}{ws:List Value},Vals vs us→Vals zs ws→Vals (gV vs zs) (g us ws)
variable {g:List Value→List Value→List Value}{gV:List V→List V→List V}
end
structure aC (N P:List Str) (sc:Scope):Prop where
 kind:sc.kind=.function
 co:sc.isCoroutine=false
 gen:sc.isGenerator=false
 nd:N.Nodup
 pre:N.take P.length=P
 par:∀ x∈P,sc.names.lookup x=some .local∨sc.names.lookup x=some .cell
 QT:∀ y∈sc.names,y.2≠.free
theorem xu {kindOf:Str→Option NameKind}{x:Str}:∀ {binds:List (Str × Value)}{m:Str→Option Value},(∀ v,(x,v)∉binds)→bindL kindOf binds m x=m x
 | [],_,_=>rfl
 | (n,v)::r,m,h=>by
   unfold bindL
   rw [xu fun w hw=>h w (List.mem_cons_of_mem _ hw)]
   split
   · have:x≠n:=by rintro rfl;exact h v List.mem_cons_self
     simp [this]
   · rfl
theorem xx {kindOf:Str→Option NameKind}{x:Str}:∀ {binds:List (Str × Value)}{m:Str→Option Value},(∀ v,(x,v)∉binds)→bindC kindOf binds m x=m x
 | [],_,_=>rfl
 | (n,v)::r,m,h=>by
   unfold bindC
   rw [xx fun w hw=>h w (List.mem_cons_of_mem _ hw)]
   split
   · rfl
   · have:x≠n:=by rintro rfl;exact h v List.mem_cons_self
     simp [this]
theorem xP {kindOf:Str→Option NameKind}{x:Str}{v:Value}:∀ {P:List Str}{vs:List Value}{i:Nat}{m:Str→Option Value},P.Nodup→P[i]? = some x→vs[i]? = some v→kindOf x=some .local →
   bindL kindOf (P.zip vs) m x=some v
 | [],_,_,_,_,h,_,_=>by simp at h
 | _::_,[],_,_,_,_,h,_=>by simp at h
 | p::P,w::vs,0,m,nd,h1,h2,hk=>by
   simp at h1 h2;subst h1;subst h2
   show bindL kindOf ((p,w)::P.zip vs) m p=_
   unfold bindL
   rw [xu fun v hv=>(List.nodup_cons.mp nd).1 (List.of_mem_zip hv).1,if_pos hk]
   simp
 | p::P,w::vs,i+1,m,nd,h1,h2,hk=>by
   show bindL kindOf ((p,w)::P.zip vs) m x=_
   unfold bindL
   exact xP (i:=i) (List.nodup_cons.mp nd).2 (by simpa using h1) (by simpa using h2) hk
theorem xQ {kindOf:Str→Option NameKind}{x:Str}{v:Value}:∀ {P:List Str}{vs:List Value}{i:Nat}{m:Str→Option Value},P.Nodup→P[i]? = some x→vs[i]? = some v→kindOf x≠some .local →
   bindC kindOf (P.zip vs) m x=some v
 | [],_,_,_,_,h,_,_=>by simp at h
 | _::_,[],_,_,_,_,h,_=>by simp at h
 | p::P,w::vs,0,m,nd,h1,h2,hk=>by
   simp at h1 h2;subst h1;subst h2
   show bindC kindOf ((p,w)::P.zip vs) m p=_
   unfold bindC
   rw [xx fun v hv=>(List.nodup_cons.mp nd).1 (List.of_mem_zip hv).1,if_neg hk]
   simp
 | p::P,w::vs,i+1,m,nd,h1,h2,hk=>by
   show bindC kindOf ((p,w)::P.zip vs) m x=_
   unfold bindC
   exact xQ (i:=i) (List.nodup_cons.mp nd).2 (by simpa using h1) (by simpa using h2) hk
def start (N:List Str) (vs:List V):St:=vs.map some++List.replicate (N.length - vs.length) none
def yp (CX:wC) (P:Program) (w:World) (K:PySem.W.Frag) (mg:Str→Option Value) (base:Heap) (N:List Str) (qual:Str) (scope:Scope) (f:Addr) (cd:Value) (A:Around) (outer:List Env) (s:Shared) (H:Hp) (E:XK):Cx where
 prog:=P
 w:=w
 K:=K
 mg:=mg
 base:=base
 A:=A.deeper (envOfC qual scope s.heap.objs.size f cd)
 N:=N
 s₀:=s
 H₀:=H
 env:=envOfC qual scope s.heap.objs.size f cd
 outer:=outer
 stack:=envOfC qual scope s.heap.objs.size f cd::outer
 ex:=[]
 calm:=true
 fn:=fun _=>true
 pn:=[]
 xe:=fun e s'=>wpAny (model P w) (A.deeper (envOfC qual scope s.heap.objs.size f cd)) (leaving (envOfC qual scope s.heap.objs.size f cd) e) (fun _ s''=>CX outer H s E e s'') (fun e' s''=>CX outer H s E e' s'') s'
theorem Bg {sc:Scope}{n:Nat}{x:Str} (h:sc.names.lookup x=some .cell):∃ c,(cellsFrom n sc.names []).lookup x=some c:=by
 have q:=PySem.W.cellsFrom_some sc.names n [] (.inl h)
 exact Option.isSome_iff_exists.mp q
theorem Hi {CX:wC}{P:Program}{w:World}{K:PySem.W.Frag}{mg:Str→Option Value}{base:Heap}{N ps:List Str}{qual:Str}{scope:Scope}{f:Addr}{cd:Value}{A:Around}{outer:List Env}{s s1:Shared}{H:Hp}{E:XK}{us:List Value}{vs:List V}
   (S:aC N ps scope) (hd:A.handled=none) (e0:qx P w K mg base A outer s H) (hl:vs.length=ps.length) (r:Vals vs us)
   (x:InCallC s s.heap.objs.size (bindL (envOfC qual scope s.heap.objs.size f cd).kindOf (ps.zip us) fun _=>none) (cellsFrom (s.heap.objs.size+1) scope.names []) (bindC (envOfC qual scope s.heap.objs.size f cd).kindOf (ps.zip us) fun _=>none) s1) :
   Inv (yp CX P w K mg base N qual scope f cd A outer s H E) [] (start N vs) H s1:=by
 have hpl:ps.length≤N.length:=by have:=congrArg List.length S.pre;rw [List.length_take] at this;omega
 obtain⟨h1,tk,rfl,hk⟩:=x.done
 have MK:∀ b:Addr,b∉(yp CX P w K mg base N qual scope f cd A outer s H E).ex:=fun b z=>absurd (show b∈([]:List Addr) from z) (by simp)
 refine⟨⟨e0.mod,S.kind,rfl,rfl,Nat.le_refl _,fun y z c h1 h2=>?_,fun y hy=>?_,fun y c _ h=>?_,fun _=>hd,Around.frames_deeper e0.frames,.inr ⟨rfl,rfl⟩,fun b z=>absurd z (MK b),e0.bs,e0.G8,fun b _ _=>MK b,fun b z=>absurd z (MK b),e0.mX,e0.Iw⟩,
   rfl,e0.bare,Un.kept hk,⟨_,x.toInCall.ns,fun i y v h1 h2 h3=>?_⟩,fun y c h=>⟨_,x.cell y c h⟩,e0.hok.fresh (Nat.le_refl _),fun y c h=>?_,fun p hp=>absurd (show p∈([]:List (Addr × Obj)) from hp) (by simp),e0.hok.kept hk,?_⟩
 · exact name_of_addr x.apart (PySem.mem_of_lookup h1) (PySem.mem_of_lookup h2)
 · have hy:scope.names.lookup y=some .cell∨scope.names.lookup y=some .free:=hy
   rcases hy with hy | hy
   · exact Bg hy
   · exact absurd rfl (S.QT _ (PySem.mem_of_lookup hy))
 · exact Nat.le_of_lt (x.above y c (PySem.mem_of_lookup h))
 · have hi:i<vs.length:=by
     unfold start at h2
     by_cases hi:i<vs.length
     · exact hi
     · rw [List.getElem?_append_right (by simpa using hi)] at h2
       rw [List.getElem?_replicate] at h2
       split at h2 <;> cases h2
   have ha:vs[i]? = some v:=by
     unfold start at h2
     rw [List.getElem?_append_left (by simpa using hi),List.getElem?_map] at h2
     cases e:vs[i]? with
     | none=>rw [e] at h2;cases h2
     | some a=>rw [e] at h2;cases h2;rfl
   obtain⟨u,hu,rv⟩:=r.get ha
   have hp:ps[i]? = some y:=by
     rw [← S.pre,List.getElem?_take_of_lt (by omega)];exact h1
   have ndP:ps.Nodup:=by rw [← S.pre];exact S.nd.sublist (List.take_sublist _ _)
   refine⟨u,rv,?_⟩
   rcases S.par y (List.mem_of_getElem? hp) with k | k
   · exact .inl ⟨k,xP ndP hp hu k⟩
   · obtain⟨c,e⟩:=Bg (n:=s.heap.objs.size+1) k
     refine .inr ⟨.inl k,c,e,?_⟩
     have q:=x.cell y c e
     rw [xQ ndP hp hu (by show scope.names.lookup y≠_;rw [k];decide)] at q
     exact q
 · exact e0.hok.fresh (Nat.le_of_lt (x.above y c (PySem.mem_of_lookup h)))
 · unfold start
   show _=N.length
   rw [List.length_append,List.length_map,List.length_replicate]
   omega
theorem Jl {CX:wC}{P:Program}{w:World}{K:PySem.W.Frag}{mg:Str→Option Value}{base:Heap}{k:Nat}{f:Addr}{name qual:Str}{params:Arguments}{body:List Stmt}{scope:Scope}{dV kV doc pm cdv ct oc:Value}{an od:Option Addr}
   {osl:Array (Option Value)}{N ps:List Str}{sp:Sp} (lk:K.lookup f=some ⟨oc,od,.func (PySem.W.fnOf name qual params body scope dV kV doc pm an cdv ct),osl⟩) (hcd:PySem.W.codeIn K cdv qual=true) (S:aC N ps scope)
   (len:∀ vs H Q E,sp vs H Q E→vs.length=ps.length)
   (hbody:∀ (A:Around) (outer:List Env) (s:Shared) (H:Hp) (vs:List V) (Q:VK) (E:XK),dq k (A.deeper (envOfC qual scope s.heap.objs.size f cdv))→sp vs H Q E →
     ∃ t,mO (yp CX P w K mg base N qual scope f cdv A outer s H E) body t∧t { nx:=fun _ H'=>Q .non H',rt:=Q } (start N vs) H) :
   bz P w K mg base CX (k+1) f (PySem.W.fnOf name qual params body scope dV kV doc pm an cdv ct) ps sp:=by
 refine⟨len,fun A outer s H args us vs Q E hr e0 hb r hsp=>?_⟩
 have hl:=len _ _ _ _ hsp
 have KX:K.In s.heap:=e0.mod.Pu.keeps fun b o e=>(e0.bs b o e).1
 have lim:s.heap.NoLimit:=e0.mod.nolimit.keeps fun b o e=>(e0.bs b o e).1
 have hkind:∀ y∈ps.zip us,scope.names.lookup y.1=some .local∨(scope.names.lookup y.1=some .cell∧((cellsFrom (s.heap.objs.size+1) scope.names []).lookup y.1).isSome=true):=fun⟨n,v⟩ hy=>by
   rcases S.par n (List.of_mem_zip hy).1 with q | q
   · exact .inl q
   · exact .inr ⟨q,PySem.W.cellsFrom_some _ _ _ (.inl q)⟩
 refine codeAny_call_function hr.depth (KX _ _ lk) rfl S.co S.gen rfl (PySem.W.codeRec_of KX hcd) (hb _ _ _ _ ?_)
 refine wpAny_newFunctionEnv_cells S.kind hkind fun env he s1 x=>?_
 subst he
 refine⟨lim.keeps x.toInCall.keep,codeAny_func ?_⟩
 obtain⟨t,ht,hq⟩:=hbody A outer s H vs Q E (hr.deeper _) hsp
 have I:Inv (yp CX P w K mg base N qual scope f cdv A outer s H E) [] (start N vs) H s1:=Hi S hr.hd e0 hl r x
 refine wpAny_mono (ht [] s1 (start N vs) H _ I hq) (fun fl s' hs=>?_) fun e s' hs=>hs
 have fin:∀ {σ':St}{H':Hp}{v:V}{u:Value},Inv (yp CX P w K mg base N qual scope f cdv A outer s H E) [] σ' H' s'→RelV v u→Q v H'→CE outer P w H s Q u s' :=
   fun {σ' H' v u} J rv q=>⟨v,H',J.os,J.bare,J.base,J.hok,rv,q⟩
 cases fl with
 | ret u =>
   obtain⟨v,σ',H',J,rv,q⟩:=hs
   exact fin J rv q
 | next =>
   obtain⟨σ',H',J,q⟩:=hs
   exact fin (v:=V.non) (u:=Value.none) J rfl q
 | brk =>
   obtain⟨_,_,_,q⟩:=hs
   exact False.elim q
 | cont =>
   obtain⟨_,_,_,q⟩:=hs
   exact False.elim q
end L2
namespace L2
open PySem PySem.Spec PyProof.Rows
section
variable {X:Cx}{x:Str}{p pos:Pos}{e:Expr}{es:List Expr}{t:TA}{id T:String}{r:List V→Hp→VK→Prop}
def tCB (r:List V→Hp→VK→Prop) (t:TA):TE:=fun σ H Q=>t σ H fun vs H1=>r vs H1 Q
theorem yI (hc:cZ X (.builtin id) r) (hg:Gl X x) (hm:X.mg x=none) (hv:bootBuiltins x=some (.builtin id)) (ha:PA X (e::es) t) (hn:x≠"__name__":=by decide) (hdb:(x == ("__debug__":Str))=false:=by decide)
   (he:starEach (e::es) X.env=(false,eval e X.env)::starEach es X.env:=by rfl) (hpl:(backTo pos (starEach es X.env)).any (·.1)=false:=by rfl):PE X (.Call (.Name x p) (e::es) [] pos) (tCB r t):=by
 intro pins s σ H Q I h
 refine wpAny_Call_Name_kw (uR I hg hm hv ?_ hn hdb)
 exact PyProof.Rows.callWith_builtin1 (dh (ha pos pins s σ H _ I h) fun us s1 ⟨vs,H1,I1,r1,q1⟩=>hc pins s1 σ H1 vs us Q I1 r1 q1) he hpl
theorem gh (hc:cZ X (.type T) r) (hg:Gl X x) (hm:X.mg x=none) (hv:bootBuiltins x=some (.type T)) (ha:PA X (e::es) t) (hn:x≠"__name__":=by decide) (hdb:(x == ("__debug__":Str))=false:=by decide)
   (he:starEach (e::es) X.env=(false,eval e X.env)::starEach es X.env:=by rfl) (hpl:(backTo pos (starEach es X.env)).any (·.1)=false:=by rfl):PE X (.Call (.Name x p) (e::es) [] pos) (tCB r t):=by
 intro pins s σ H Q I h
 refine wpAny_Call_Name_kw (uR I hg hm hv ?_ hn hdb)
 exact PyProof.Rows.callWith_type1 (dh (ha pos pins s σ H _ I h) fun us s1 ⟨vs,H1,I1,r1,q1⟩=>hc pins s1 σ H1 vs us Q I1 r1 q1) he hpl
end
end L2
namespace HT
open PySem PyProof.Rows
section
open PySem.SeqAt
open PySem.AutoSeq1 (wpAny_loadPart')
open PySem.MeetsSeq PySem.MeetsSeq2 PySem.MeetsSeq3
end
section
variable {prog:Program}{w:World}{A:Around}{E:Value→Shared→Prop}{s:Shared}
def MN (n d:Nat):Option Int→Nat
 | none=>d
 | some v=>if v<0 then (v+(n:Int)).toNat else min v.toNat n
theorem QV (n d:Nat) (hd:d≤n) (o:Option Int):MN n d o≤n:=by
 cases o with
 | none=>exact hd
 | some v =>
   show (if v<0 then (v+(n:Int)).toNat else min v.toNat n)≤n
   by_cases hv:v<0
   · rw [if_pos hv];omega
   · rw [if_neg hv];exact Nat.min_le_right _ _
end
end HT
namespace L2
open PySem PySem.Spec PyProof.Rows
abbrev TO:=St→Hp→(Option Int→Hp→Prop)→Prop
def PO (X:Cx) (e:Option Expr) (t:TO):Prop :=
 ∀ (pins:List (Addr × Obj)) (s:Shared) (σ:St) (H:Hp) (Q:Option Int→Hp→Prop),Inv X pins σ H s→t σ H Q →
   wpAny (model X.prog X.w) X.A (evalPart e X.env) (fun u s'=>∃ o H',Inv X pins σ H' s'∧IsPart u o∧Q o H') X.xe s
def MP:TO:=fun _ H Q=>Q none H
def VL (t:TE):TO:=fun σ H Q=>t σ H fun x H1=>∃ i,x=.int i∧Q (some i) H1
section
variable {X:Cx}{e:Expr}{te:TE}{lo hi:Option Expr}{tl th:TO}{pos p2:Pos}
theorem MT:PO X none MP:=by
 intro pins s σ H Q I h
 rw [evalPart_none]
 exact wpAny_pure ⟨none,H,I,.none,h⟩
theorem M3 (h:PE X e te):PO X (some e) (VL te):=by
 intro pins s σ H Q I hw
 rw [evalPart_some]
 refine dh (h pins s σ H _ I hw) fun u s1 zq=>?_
 obtain⟨x,H1,I1,r1,q1⟩:=zq
 obtain⟨i,rfl,q⟩:=q1
 obtain⟨t,rfl⟩:=r1
 exact⟨some i,H1,I1,.int i t,q⟩
def wD (X:Cx) (r:V→Option Int→Option Int→Hp→VK→Prop):Prop :=
 ∀ (pins:List (Addr × Obj)) (s:Shared) (σ:St) (H:Hp) (x:V) (v vl vu:Value) (lo hi:Option Int) (sl:Addr) (Q:VK),Inv X pins σ H s→RelV x v→s.heap.IsSliceOf sl vl vu .none→IsPart vl lo→IsPart vu hi→r x lo hi H Q →
   ∃ T id,typeLookup (.type T) "__getitem__" = pure (some (.builtin id))∧s.TypeIs v T∧wpAny (model X.prog X.w) X.A (getItem v (.ref sl)) (EP X pins σ Q) X.xe s
def tSl (r:V→Option Int→Option Int→Hp→VK→Prop) (te:TE) (tl th:TO):TE:=fun σ H Q=>te σ H fun x H1=>tl σ H1 fun l H2=>th σ H2 fun u H3=>r x l u H3 Q
theorem Jm {r:V→Option Int→Option Int→Hp→VK→Prop} (hr:wD X r) (he:PE X e te) (hl:PO X lo tl) (hu:PO X hi th):PE X (.Subscript e (.Slice lo hi none p2) pos) (tSl r te tl th):=by
 intro pins s σ H Q I h
 refine Subscript_ (dh (he pins s σ H _ I h) fun v s1 zq=>?_)
 obtain⟨x,H1,I1,r1,q1⟩:=zq
 refine wpAny_Slice (dh (hl pins s1 σ H1 _ I1 q1) fun vl s2 ⟨l,H2,I2,pl,q2⟩=>dh (hu pins s2 σ H2 _ I2 q2) fun vu s3 zq=>?_)
 obtain⟨u,H3,I3,pu,q3⟩:=zq
 rw [evalPart_none]
 refine wpAny_pure ?_
 have I4:Inv X pins σ H3 { s3 with heap:=s3.heap.push { cls:=.type "slice",data:=.fields #[vl,vu,.none] } }:=I3.kept (t':=s3.toks) fun b ob q=>Heap.get?_push_of_some _ q
 obtain⟨T,id,hT,ht,hg⟩:=hr pins { s3 with heap:=s3.heap.push { cls:=.type "slice",data:=.fields #[vl,vu,.none] } } σ H3 x v vl vu l u s3.heap.objs.size Q I4 r1 (Heap.IsSliceOf.new ..) pl pu q3
 show wpAny (model X.prog X.w) X.A (subscriptTail e (.Slice lo hi none p2) v (.ref s3.heap.objs.size)) (EP X pins σ Q) X.xe { s3 with heap:=s3.heap.push { cls:=.type "slice",data:=.fields #[vl,vu,.none] } }
 exact tail_any (ops:=[.ref s3.heap.objs.size,v]) ht hT hg (by with_unfolding_all rfl)
end
end L2
namespace L2
open PySem PySem.Spec PyProof.Rows
def Uq (n:Nat) (i:Int):Option Nat:=if 0≤i then (if i<n then some i.toNat else none) else if -(n:Int)≤i then some (i+n).toNat else none
def Jo {α:Type} (xs:List α) (i:Int):Option α:=(Uq xs.length i).bind fun j=>xs[j]?
theorem M4 {n:Nat}{i:Int}{j:Nat} (h:Uq n i=some j):seqIndex? i n=some j∧j<n∧-(n:Int)≤i∧i<n:=by
 unfold Uq at h
 by_cases h0:0≤i
 · rw [if_pos h0] at h
   by_cases h1:i<n
   · rw [if_pos h1] at h
     have e:i.toNat=j:=Option.some.inj h
     exact⟨by rw [seqIndex_of h0 h1,e],by omega,by omega,h1⟩
   · rw [if_neg h1] at h;cases h
 · rw [if_neg h0] at h
   by_cases h1:-(n:Int)≤i
   · rw [if_pos h1] at h
     have e:(i+n).toNat=j:=Option.some.inj h
     exact⟨by rw [seqIndex_neg (by omega) h1,e],by omega,h1,by omega⟩
   · rw [if_neg h1] at h;cases h
theorem yq {α:Type}{xs:List α}{i:Int}{v:α} (h:Jo xs i=some v):∃ j,seqIndex? i xs.length=some j∧xs[j]? = some v∧j<xs.length∧-(xs.length:Int)≤i∧i<xs.length:=by
 unfold Jo at h
 cases e:Uq xs.length i with
 | none=>rw [e] at h;cases h
 | some j =>
   rw [e] at h
   obtain⟨h1,h2,h3,h4⟩:=M4 e
   exact⟨j,h1,h,h2,h3,h4⟩
theorem zX {α:Type}{xs:List α}{j:Nat}{v:α} (h:xs[j]? = some v):Jo xs (j:Int)=some v:=by
 have hj:j<xs.length:=(List.getElem?_eq_some_iff.mp h).1
 have e:Uq xs.length (j:Int)=some j:=by
   unfold Uq
   rw [if_pos (by omega),if_pos (by omega)];simp
 unfold Jo;rw [e];exact h
def M5 (b:Expr):Prop:=∀ o i,subscripted b false o i=operate [o,i] (getItem o i)
def uI (X:Cx) (r:R2):Prop :=
 ∀ (value slice:Expr) (pins:List (Addr × Obj)) (s:Shared) (σ:St) (H:Hp) (x y:V) (v u:Value) (Q:VK),Inv X pins σ H s→RelV x v→RelV y u→r x y H Q →
   subscripted slice false v u=operate [v,u] (getItem v u)→wpAny (model X.prog X.w) X.A (subscriptTail value slice v u) (EP X pins σ Q) X.xe s
def MtR (X:Cx) (id:String) (r:V→List V→Hp→VK→Prop):Prop :=
 ∀ (pins:List (Addr × Obj)) (s:Shared) (σ:St) (H:Hp) (x:V) (xs:List V) (v:Value) (us:List Value) (Q:VK),Inv X pins σ H s→RelV x v→Vals xs us→r x xs H Q →
   wpAny (model X.prog X.w) X.A (call (.builtin id) (v::us)) (EP X pins σ Q) X.xe s
section
variable {X:Cx}{a b:Expr}{ta tb:TE}{pos:Pos}
theorem yX {r:R2} (hr:uI X r) (ha:PE X a ta) (hb:PE X b tb) (hs:M5 b):PE X (.Subscript a b pos) (tOp r ta tb):=by
 intro pins s σ H Q I h
 exact Subscript_ (QR ha hb I h fun v u s2 x y H2 I2 rx ry q=>hr a b pins s2 σ H2 x y v u Q I2 rx ry q (hs _ _))
def aeL (K:PySem.W.Frag):R2:=fun x y H Q=>∃ p xs i v,x=.ref p∧y=.int i∧bQ K H p xs∧Jo xs i=some v∧Q v H
def aeM (K:PySem.W.Frag):R2:=fun x y H Q=>∃ p xs i v,x=.ref p∧y=.int i∧gf K H p xs∧Jo xs i=some v∧Q v H
def aeN:R2:=fun x y H Q=>∃ z i c,x=.str z∧y=.int i∧z.length≤sizeLine∧Jo z.cps.toList i=some c∧Q (.str ⟨#[c]⟩) H
theorem xM:uI X (aeL X.K):=by
 intro value slice pins s σ H x y v u Q I rx ry h hs
 obtain⟨p,xs,i,z,rfl,rfl,hq,he,q⟩:=h
 cases rx
 obtain⟨t,rfl⟩:=ry
 obtain⟨its,r,pl,hz⟩:=I.list hq
 obtain⟨j,h1,h2,h3,h4,h5⟩:=yq he
 obtain⟨w,ew,Hj⟩:=r.get h2
 have hl:=r.length
 have hn:=uV
 have fin:EP X pins σ Q w s:=⟨z,H,I,Hj,q⟩
 by_cases h0:0≤i
 · have hj:i.toNat=j:=by
     rw [seqIndex_of h0 h5] at h1
     exact Option.some.inj h1
   exact item_listR pl.isList h0 (by omega) (by rw [hj];simpa using ew) fin hs
 · have hj:(i+(its.toArray.size:Int)).toNat=j:=by
     rw [seqIndex_neg (by omega) h4] at h1
     rw [List.size_toArray,← hl]
     exact Option.some.inj h1
   exact subscriptTail_builtinR (x:=w) pl.isList.typeIs slot_list_getitem.lookup
     (wpAny_getItem_list_neg (Q:=fun r s'=>r=w∧EP X pins σ Q r s') pl.isList (by omega) (by rw [List.size_toArray] <;> omega) (by omega) (by rw [hj];simpa using ew) ⟨rfl,fin⟩) hs
theorem xO:uI X (aeM X.K):=by
 intro value slice pins s σ H x y v u Q I rx ry h hs
 obtain⟨p,xs,i,z,rfl,rfl,hq,he,q⟩:=h
 cases rx
 obtain⟨t,rfl⟩:=ry
 obtain⟨its,r,pl,hz⟩:=I.tuple hq
 obtain⟨j,h1,h2,h3,h4,h5⟩:=yq he
 obtain⟨w,ew,Hj⟩:=r.get h2
 have hl:=r.length
 have hn:=uV
 have fin:EP X pins σ Q w s:=⟨z,H,I,Hj,q⟩
 exact subscriptTail_builtinR (x:=w) pl.typeIs slot_tuple_getitem.lookup
   (getItem_tuple (j:=j) (Q:=fun r s'=>r=w∧EP X pins σ Q r s') pl (by omega) (by omega) (by rw [List.size_toArray,← hl];exact h1) (by simpa using ew) ⟨rfl,fin⟩) hs
theorem DG:uI X aeN:=by
 intro value slice pins s σ H x y v u Q I rx ry h hs
 obtain⟨z,i,c,rfl,rfl,hz,he,q⟩:=h
 obtain⟨t,rfl⟩:=rx
 obtain⟨t',rfl⟩:=ry
 obtain⟨j,h1,h2,h3,h4,h5⟩:=yq he
 have hl:z.cps.toList.length=z.length:=by simp [Str.length]
 rw [hl] at h1 h4 h5
 have hn:=uV
 exact tail_any (typeIs_str s z t) slot_str_getitem.lookup (getItem_str (c:=c) (by
   have e1:decide (i < -(2 ^ 63:Int))=false:=decide_eq_false (by omega)
   have e2:decide (i ≥ 2 ^ 63)=false:=decide_eq_false (by omega)
   rw [e1,e2,Bool.or_false]) (by rw [h1];simpa using h2) ⟨.str ⟨#[c]⟩,H,I.tok _,⟨_,rfl⟩,q⟩) hs
theorem Inv.lst {pins:List (Addr × Obj)}{σ:St}{H:Hp}{s:Shared}{p:Addr}{xs:List V} (I:Inv X pins σ H s) (h:H p=some (.lst xs)) :
   ∃ (its:List Value) (n:Nat),Vals xs its∧s.heap.get? p=some { cls:=.type "list",data:=.seq its.toArray n }∧xs.length≤sizeLine:=by
 obtain⟨z,its,n,r,e⟩:=I.hok p _ h
 exact⟨its,n,r,e,z⟩
def dD:V→Bool
 | .non=>true
 | .bl _=>true
 | .int _=>true
 | .str _=>true
 | _=>false
def Dm:V→V→Bool
 | .non,.non=>true
 | .bl a,.bl b=>a == b
 | .bl a,.int b=>(if a then 1 else 0) == b
 | .int a,.bl b=>a == (if b then 1 else 0)
 | .int a,.int b=>a == b
 | .str a,.str b=>a == b
 | _,_=>false
theorem Jp {A:Around}{s:Shared}{y x:V}{u v:Value} (ry:RelV y u) (rx:RelV x v) (fy:dD y=true) (fx:dD x=true):SeqAt.EqAt A s u v (Dm y x):=by
 cases y with
 | non =>
   cases ry
   cases x with
   | non=>cases rx;exact SeqAt.EqAt.same _
   | bl b=>cases rx;exact SeqAt.EqAt.none_bool b
   | int b=>obtain⟨t,rfl⟩:=rx;exact SeqAt.EqAt.none_int b t
   | str b=>obtain⟨t,rfl⟩:=rx;exact SeqAt.EqAt.none_str b t
   | _=>exact absurd (show false=true from fx) Bool.false_ne_true
 | bl a =>
   cases ry
   cases x with
   | non=>cases rx;exact SeqAt.EqAt.bool_none a
   | bl b=>cases rx;exact SeqAt.EqAt.bool_bool a b
   | int b=>obtain⟨t,rfl⟩:=rx;exact SeqAt.EqAt.bool_int a b t
   | str b=>obtain⟨t,rfl⟩:=rx;exact SeqAt.EqAt.bool_str a b t
   | _=>exact absurd (show false=true from fx) Bool.false_ne_true
 | int a =>
   obtain⟨t',rfl⟩:=ry
   cases x with
   | non=>cases rx;exact SeqAt.EqAt.int_none a t'
   | bl b=>cases rx;exact SeqAt.EqAt.int_bool a t' b
   | int b=>obtain⟨t,rfl⟩:=rx;exact SeqAt.EqAt.int_int a t' b t
   | str b=>obtain⟨t,rfl⟩:=rx;exact SeqAt.EqAt.int_str a t' b t
   | _=>exact absurd (show false=true from fx) Bool.false_ne_true
 | str a =>
   obtain⟨t',rfl⟩:=ry
   cases x with
   | non=>cases rx;exact SeqAt.EqAt.str_none a t'
   | bl b=>cases rx;exact SeqAt.EqAt.str_bool a t' b
   | int b=>obtain⟨t,rfl⟩:=rx;exact SeqAt.EqAt.str_int a t' b t
   | str b=>obtain⟨t,rfl⟩:=rx;exact SeqAt.EqAt.str_str a t' b t
   | _=>exact absurd (show false=true from fx) Bool.false_ne_true
 | _=>exact absurd (show false=true from fy) Bool.false_ne_true
def Jq (x:V) (u:Value):Bool:=match u with
 | .none=>Dm .non x
 | .bool b=>Dm (.bl b) x
 | .int i _=>Dm (.int i) x
 | .str z _=>Dm (.str z) x
 | _=>false
theorem DK {x y:V}{u:Value} (r:RelV y u) (f:dD y=true):Jq x u=Dm y x:=by
 cases y with
 | non=>cases r;rfl
 | bl b=>cases r;rfl
 | int i=>obtain⟨t,rfl⟩:=r;rfl
 | str z=>obtain⟨t,rfl⟩:=r;rfl
 | _=>exact absurd (show false=true from f) Bool.false_ne_true
theorem yr {x:V}:∀ {xs:List V}{us:List Value},Vals xs us→xs.all dD=true→us.any (Jq x)=xs.any fun y=>Dm y x
 | _,_,.nil,_=>rfl
 | y::xs,u::us,.cons r t,f=>by
   rw [List.all_cons,Bool.and_eq_true] at f
   rw [List.any_cons,List.any_cons,DK r f.1,yr t f.2]
theorem qy {A:Around}{s:Shared}{x:V}{v:Value} (rx:RelV x v) (fx:dD x=true):∀ {xs:List V}{us:List Value},Vals xs us→xs.all dD=true→∀ u∈us,SeqAt.EqAt A s u v (Jq x u)
 | _,_,.nil,_=>fun u hu=>by cases hu
 | y::xs,u::us,.cons r t,f=>fun u' hu=>by
   rw [List.all_cons,Bool.and_eq_true] at f
   rcases List.mem_cons.mp hu with rfl | hu
   · rw [DK r f.1];exact Jp r rx f.1 fx
   · exact qy rx fx t f.2 u' hu
def inV (x:V) (xs:List V):Bool:=xs.any fun y=>Dm y x
def rIn (K:PySem.W.Frag) (neg:Bool):R2:=fun x y H Q=>∃ p xs,y=.ref p∧(bQ K H p xs∨gf K H p xs)∧dD x=true∧xs.all dD=true∧Q (.bl (if neg then !inV x xs else inV x xs)) H
theorem yt:iB X (compareOp .NotIn) (rIn X.K true):=by
 intro pins s σ H x y v u Q I rx ry h
 obtain⟨p,xs,rfl,hq,fx,fs,q⟩:=h
 cases ry
 rcases hq with hq | hq
 · obtain⟨its,r,pl,hz⟩:=I.list hq
   refine SeqAt.notIn_listAt (Jq x) pl.isList (fun w hw=>qy rx fx r fs w (by simpa using hw)) ⟨.bl _,H,I,rfl,?_⟩
   rw [show its.toArray.any (Jq x)=its.any (Jq x) by simp,yr r fs]
   exact q
 · obtain⟨its,r,pl,hz⟩:=I.tuple hq
   refine SeqAt.notIn_tupleAt (Jq x) pl (fun w hw=>qy rx fx r fs w (by simpa using hw)) ⟨.bl _,H,I,rfl,?_⟩
   rw [show its.toArray.any (Jq x)=its.any (Jq x) by simp,yr r fs]
   exact q
theorem yM:cZ X (.builtin "len") (fun xs H Q=>∃ p ys,xs=[.ref p]∧(bQ X.K H p ys∨gf X.K H p ys)∧Q (.int ys.length) H):=by
 intro pins s σ H xs us Q I r h
 obtain⟨p,ys,rfl,hq,q⟩:=h
 obtain⟨u,rfl,rx⟩:=vals1 r
 cases rx
 have hn:=uV
 rcases hq with hq | hq
 · obtain⟨its,r',pl,hz⟩:=I.list hq
   have hlen:=r'.length
   exact Calls.call_len_list pl.isList (by simp only [List.size_toArray] <;> omega) ⟨.int ys.length,H,I.tok _,⟨s.toks+1,by rw [List.size_toArray,hlen]⟩,q⟩
 · obtain⟨its,r',pl,hz⟩:=I.tuple hq
   have hlen:=r'.length
   exact len_tuple pl (by simp only [List.size_toArray] <;> omega) ⟨.int ys.length,H,I.tok _,⟨s.toks+1,by rw [List.size_toArray,hlen]⟩,q⟩
theorem xN:cZ X (.type "list") (fun xs H Q=>∃ p ys,xs=[.ref p]∧(bQ X.K H p ys∨gf X.K H p ys)∧∀ l,H l=none→Q (.ref l) (upd H l (.lst ys))):=by
 intro pins s σ H xs us Q I r h
 obtain⟨p,ys,rfl,hq,q⟩:=h
 obtain⟨u,rfl,rx⟩:=vals1 r
 cases rx
 have fin:∀ (its:List Value),Vals ys its→ys.length≤sizeLine→∀ (h':Heap) (c':Nat),(∀ b o',s.heap.get? b=some o'→h'.get? b=some o') →
     h'.get? s.heap.objs.size=some { cls:=.type "list",dict:=none,data:=.seq its.toArray c',slots:=#[] }→EP X pins σ Q (.ref s.heap.objs.size) { s with heap:=h' }:=fun its r' hz h' c' kp e =>
   ⟨.ref s.heap.objs.size,_,I.laid (t':=s.toks) kp (Nat.le_refl _) (show bC X.prog X.w _ h' _ (.lst ys) from ⟨hz,its,c',r',e⟩),rfl,q _ (I.hok.fresh (Nat.le_refl _))⟩
 rcases hq with hq | hq
 · obtain⟨its,r',pl,hz⟩:=I.list hq
   have hlen:=r'.length
   obtain⟨o,ho,hc,n,hd⟩:=pl.isList
   exact call_list_seq p (.inl rfl) ho hc hd (fun h' c' kp e=>fin its r' hz h' c' kp e) (by simp only [List.size_toArray] <;> omega)
 · obtain⟨its,r',pl,hz⟩:=I.tuple hq
   have hlen:=r'.length
   obtain⟨o,ho,hc,n,hd⟩:=pl
   exact call_list_seq p (.inr rfl) ho hc hd (fun h' c' kp e=>fin its r' hz h' c' kp e) (by simp only [List.size_toArray] <;> omega)
def tyV (K:PySem.W.Frag) (T:String) (x:V) (H:Hp):Prop:=match x with
 | .str _=>T="str"
 | .int _=>T="int"
 | .ref p=>(T="list"∧∃ xs,bQ K H p xs)∨(T="tuple"∧∃ o,K.lookup p=some o∧o.cls=.type "tuple"∧o.dict=none) ∨
     (T="dict"∧((∃ kvs,H p=some (.dK kvs))∨∃ kvs,H p=some (.dT kvs)))∨(T="set"∧∃ S n,H p=some (.set S n))
 | _=>False
theorem QW {pins:List (Addr × Obj)}{σ:St}{H:Hp}{s:Shared}{T:String}{x:V}{v:Value} (I:Inv X pins σ H s) (r:RelV x v) (ty:tyV X.K T x H) :
   s.TypeIs v T∧∀ a,v=.ref a→∃ ob,s.heap.get? a=some ob∧ob.dict=none:=by
 cases x with
 | str z =>
   obtain⟨t,rfl⟩:=r
   cases (show T="str" from ty)
   exact⟨typeIs_str s z t,fun _ e=>nomatch e⟩
 | int i =>
   obtain⟨t,rfl⟩:=r
   cases (show T="int" from ty)
   exact⟨typeIs_int s i t,fun _ e=>nomatch e⟩
 | ref p =>
   cases r
   rcases ty with ⟨rfl,xs,hq⟩ | ⟨rfl,o,hk,hc,hd⟩ | ⟨rfl,hk⟩ | ⟨rfl,S,n,hk⟩
   · obtain⟨its,_,pl,_⟩:=I.list hq
     refine⟨pl.isList.typeIs,fun a e=>?_⟩
     cases e
     obtain⟨o,n,e,c,hd,_⟩:=pl
     exact⟨o,e,hd⟩
   · refine⟨⟨o,I.uO p o hk,hc⟩,fun a e=>?_⟩
     cases e
     exact⟨o,I.uO _ o hk,hd⟩
   · have z:∃ o,s.heap.get? p=some o∧o.ExactDict:=by
       rcases hk with ⟨kvs,hk⟩ | ⟨kvs,hk⟩
       · obtain⟨_,_,_,_,o,_,_,e,ex,_⟩:=I.hok p _ hk
         exact⟨o,e,ex⟩
       · obtain⟨_,_,_,_,o,_,_,e,ex,_⟩:=I.hok p _ hk
         exact⟨o,e,ex⟩
     obtain⟨o,e,ex⟩:=z
     refine⟨⟨o,e,ex.1⟩,fun a e2=>?_⟩
     cases e2
     exact⟨o,e,ex.2.1⟩
   · obtain⟨o,_,_,_,e,ex,_⟩:=I.hok p _ hk
     refine⟨⟨o,e,ex.1⟩,fun a e2=>?_⟩
     cases e2
     exact⟨o,e,ex.2.1⟩
 | _=>exact False.elim ty
def tBM (K:PySem.W.Frag) (T:String) (r:V→List V→Hp→VK→Prop) (to:TE) (t:TA):TE:=fun σ H Q=>to σ H fun x H1=>tyV K T x H1∧t σ H1 fun xs H2=>r x xs H2 Q
variable {o e:Expr}{es:List Expr}{to:TE}{t:TA}{name:Str}{apos cpos:Pos}{T id:String}{r:V→List V→Hp→VK→Prop}
theorem xH (pa:PlainAttrs T) (slot:Slot T name id) (hty:typeOf (.builtin id)=pure (.type "method_descriptor")) (hm:MtR X id r) (ho:PE X o to) (ha:PA X (e::es) t)
   (hbase:attributeBase o name X.env (eval o X.env)=eval o X.env:=by rfl)
   (hfew:((backTo cpos (starEach (e::es) X.env)).all (fun x=>!x.1) && (backToKw cpos (keywordEach [] X.env)).all (fun x=>x.1.isSome)
     && decide ((e::es).length+([]:List Keyword).length+(if ([]:List Keyword).isEmpty then 0 else 1)<30))=true:=by rfl)
   (hline:(apos.endLine == cpos.line)=true:=by rfl) (hs:starEach (e::es) X.env=(false,eval e X.env)::starEach es X.env:=by rfl) (hplain:(backTo cpos (starEach es X.env)).any (·.1)=false:=by rfl) :
   PE X (.Call (.Attribute o name apos) (e::es) [] cpos) (tBM X.K T r to t):=by
 intro pins s σ H Q I h
 refine wpAny_Call_method_late hbase hfew hline rfl (dh (ho pins s σ H _ I h) fun v s1 zq=>?_)
 obtain⟨x,H1,I1,r1,ty,q1⟩:=zq
 obtain⟨h1,h2⟩:=QW I1 r1 ty
 refine⟨T,id,pa,slot,hty,h1,h2,?_⟩
 have hA:=ha cpos pins s1 σ H1 _ I1 q1
 rw [hs] at hA ⊢
 refine Calls.callWith_builtin (by show (false || (backTo cpos (starEach es X.env)).any (·.1))=false;rw [hplain] <;> rfl) (Calls.evalArgs_plain ?_)
 exact dh hA fun us s2 ⟨vs,H2,I2,r2,q2⟩=>hm pins s2 σ H2 x vs v us Q I2 r1 r2 q2
end
end L2
namespace L2
open PySem PySem.Spec PyProof.Rows
def MtM (X:Cx) (id:String) (r:V→List V→Hp→VK→Prop):Prop :=
 ∀ (pins:List (Addr × Obj)) (s:Shared) (σ:St) (H:Hp) (x:V) (xs:List V) (v:Value) (us:List Value) (Q:VK),Inv X pins σ H s→RelV x v→Vals xs us→r x xs H Q →
   wpAny (model X.prog X.w) X.A (call (.builtin id) (v::us)) (EP X pins σ Q) X.xe s
theorem Vals.one:∀ {x:V}{us:List Value},Vals [x] us→∃ u,us=[u]∧RelV x u
 | _,_,.cons r .nil=>⟨_,rfl,r⟩
theorem Vals.zero:∀ {us:List Value},Vals [] us→us=[]
 | _,.nil=>rfl
theorem Vals.reverse {xs:List V}{us:List Value} (h:Vals xs us):Vals xs.reverse us.reverse:=by
 induction h with
 | nil=>exact .nil
 | cons r t ih=>rw [List.reverse_cons,List.reverse_cons];exact Vals.append ih (.cons r .nil)
section
variable {X:Cx}{pins:List (Addr × Obj)}{σ:St}{H:Hp}{s:Shared}{l b:Addr}{xs ys zs:List V}
theorem Inv.aeO {its its':List Value}{n:Nat}{f:Array Value→Array Value}{t':Nat} (I:Inv X pins σ H s) (hH:H l=some (.lst xs))
   (e:s.heap.get? l=some { cls:=.type "list",data:=.seq its.toArray n }) (hf:f its.toArray=its'.toArray) (hv:Vals ys its') (hz:ys.length≤sizeLine) :
   Inv X pins σ (upd H l (.lst ys)) { s with heap:=s.heap.update l (Obj.mapSeq f),toks:=t' }:=by
 have q:=PySem.IsL.update e f
 rw [hf] at q
 refine I.write (x:=l) (e:=l) (by rw [hH];exact trivial) (.inl rfl) (fun b' u hb hu=>(Heap.get?_update_other s.heap (Obj.mapSeq f) (Ne.symm hb)).trans hu) ⟨_,q⟩ ?_
 exact⟨hz,its',_,hv,q⟩
theorem Inv.aeP {its:List Value}{t':Nat} (I:Inv X pins σ H s) (hv:Vals ys its) (hz:ys.length≤sizeLine) :
   Inv X pins σ (upd H s.heap.objs.size (.lst ys)) { s with heap:=s.heap.push { cls:=.type "list",data:=.seq its.toArray },toks:=t' } :=
 I.laid (fun _ _ q=>Heap.get?_push_of_some _ q) (Nat.le_refl _) ⟨hz,its,0,hv,Heap.get?_push_size _ rfl⟩
theorem Inv.fresh (I:Inv X pins σ H s):H s.heap.objs.size=none:=I.hok.fresh (Nat.le_refl _)
theorem Inv.QX (I:Inv X pins σ H s) (hH:H l=some (.lst xs)):xs.length≤sizeLine∧∃ (its:List Value) (n:Nat),Vals xs its∧xs.length=its.length∧s.heap.get? l=some { cls:=.type "list",data:=.seq its.toArray n }:=by
 obtain⟨z,its,n,r,e⟩:=I.hok l _ hH
 exact⟨z,its,n,r,r.length,e⟩
end
section
variable {X:Cx}
def M6:V→List V→Hp→VK→Prop:=fun x vs H Q=>∃ l xs y,x=.ref l∧vs=[y]∧H l=some (.lst xs)∧xs.length<sizeLine∧Q .non (upd H l (.lst (xs++[y])))
theorem zY:MtM X "list.append" M6:=by
 intro pins s σ H x vs v us Q I rx rv h
 obtain⟨l,xs,y,rfl,rfl,hH,hz,q⟩:=h
 cases rx
 obtain⟨u,rfl,ru⟩:=rv.one
 obtain⟨z,its,n,r,hl,e⟩:=I.QX hH
 refine call_meets F.slot_list_append ⟨_,e,rfl⟩ F.entry_list_append (F.args_list_append_2 _ _) (PySem.list_append l its.toArray n u (by rw [List.size_toArray];omega)) ⟨e,?_⟩
 refine⟨.non,_,I.aeO (its':=its++[u]) hH e (by simp) (r.append (.cons ru .nil)) ?_,rfl,q⟩
 rw [List.length_append,List.length_singleton]
 omega
def aeQ:R2:=fun x y H Q=>∃ l b xs zs,x=.ref l∧y=.ref b∧H l=some (.lst xs)∧H b=some (.lst zs)∧xs.length+zs.length≤sizeLine∧∀ p,H p=none→Q (.ref p) (upd H p (.lst (xs++zs)))
theorem yu:iB X (binaryOp .Add) aeQ:=by
 intro pins s σ H x y v u Q I rx ry h
 obtain⟨l,b,xs,zs,rfl,rfl,hH,hB,hz,q⟩:=h
 cases rx
 cases ry
 obtain⟨z,its,n,r,hl,e⟩:=I.QX hH
 obtain⟨z2,its2,n2,r2,hl2,e2⟩:=I.QX hB
 refine PySem.P.add_list e e2 ?_ (by rw [List.size_toArray,List.size_toArray];omega)
 have ea:its.toArray++its2.toArray=(its++its2).toArray:=by simp
 rw [ea]
 exact⟨.ref _,_,I.aeP (t':=s.toks) (r.append r2) (by rw [List.length_append];omega),rfl,q _ I.fresh⟩
end
section
variable {prog:Program}{w:World}{A:Around}{E:Value→Shared→Prop}{s:Shared}
end
section
variable {X:Cx}
end
end L2
namespace Att
open PySem PySem.W PySem.Calls PyProof.Rows
theorem t8 {P:Params}{h:Heap}:∀ (ns:List Int) (vs:List Value),WellAll P h vs (ns.map WData.int)→IntsAre vs ns:=by
 intro ns
 induction ns with
 | nil =>
   intro vs w
   rw [List.map_nil] at w
   cases w
   exact .nil
 | cons n ns ih =>
   intro vs w
   rw [List.map_cons] at w
   cases w with
   | cons a b =>
     cases a
     exact .cons _ _ (ih _ b)
theorem Hk {l:OpenLaw}{n:Nat} (hn:l.most=some n) {P:Params}{h:Heap}{args:List WData}{vals:List Value}
   (hpre:l.row.toRowW.claim.pre args=true) (hwl:WellAll P h vals args) :
   ∃ a vs ns,vals=[Value.ref a]∧args=[WData.list (ns.map WData.int)]∧h.get? a=some { cls:=.type "list",data:=.seq vs.toArray }∧IntsAre vs ns∧ns.length≤n:=by
 have hsh:WShape.hasAll [] args [.list .int]=true:=(pre_splitW hpre).1
 have hc:l.pre.holds [] { args:=args } = true:=(pre_splitW hpre).2
 obtain⟨d,r,rfl,h1,h2⟩:=hasAllW_cons hsh
 obtain rfl:=hasAllW_nil h2
 obtain⟨xs,rfl,h3⟩:=hasW_list h1
 obtain⟨ns,rfl⟩:=items_int h3
 have hlen:ns.length≤n:=by
   unfold OpenLaw.pre at hc
   have h4:(WTm.not (.lt (.lit (.int (n:Int))) (.len (.arg 0)))).holds [] { args:=[.list (ns.map .int)] } = true:=by
     have h4:=(holds_andW hc).1
     rw [hn] at h4
     exact h4
   have h5:=condW_of h4 (w_not (w_lt w_lit (w_len_list (w_arg rfl))))
   rw [List.length_map] at h5
   refine Nat.le_of_not_lt fun q=>?_
   have q':(n:Int)<((ns.length:Nat):Int):=by omega
   first
     | (rw [decide_eq_true q'] at h5;exact absurd h5 (by decide))
     | (simp at h5;omega)
 cases hwl with
 | cons w1 w2 =>
   cases w2
   cases w1 with
   | list ho hall=>exact⟨_,_,ns,rfl,rfl,ho,t8 ns _ hall,hlen⟩
theorem Hl (l:OpenLaw) (args:List WData):l.row.toRowW.claim.post args (.bool true) args=true :=
 postW_of (r:=l.row.toRowW) (X:=(true == true))
   (show WShape.has [] (.bool true) .bool=true by first | rfl | decide | simp [WShape.has,WShape.arms,WShape.armsAll])
   (show (WTm.eq .res (.lit (.bool true))).value [] { args:=args,res:=some (.bool true),after:=args } = some (.bool (true == true)) from w_eq_bool (w_res rfl) w_lit) rfl
section
variable {prog:Program}{w:World}{A:Around}{E:Value→Shared→Prop}{s:Shared}{K:Frag}
end
end Att
namespace L2
open PySem PySem.Spec PyProof.Rows
theorem xR:∀ {vs:List Value}{ns:List Int},IntsAre vs ns→Vals (ns.map V.int) vs
 | _,_,.nil=>.nil
 | _,_,.cons n t h=>.cons ⟨t,rfl⟩ (xR h)
end L2
namespace L2
open PySem PySem.Spec PyProof.Rows
abbrev KOf {K:PySem.W.Frag}{h:Heap} (_:K.In h):PySem.W.Frag:=K
end L2
namespace L2
open PySem PySem.Spec PyProof.Rows
def inClass (s:Stmt) (j:Nat):Stmt:=match s with
 | .ClassDef _ _ _ body _ _ _ _ _ _ _=>body.getD j (.Pass ⟨0,0,0,0⟩)
 | _=>.Pass ⟨0,0,0,0⟩
def ao (s:Stmt):Arguments:=match s with
 | .FunctionDef _ a _ _ _ _ _ _ _ _=>a
 | _=>{ posonlyargs:=[],args:=[],vararg:=none,kwonlyargs:=[],kw_defaults:=[],kwarg:=none,defaults:=[] }
def ak (s:Stmt):List Stmt:=match s with
 | .FunctionDef _ _ b _ _ _ _ _ _ _=>b
 | _=>[]
def aa (s:Stmt):Scope:=match s with
 | .FunctionDef _ _ _ _ _ _ sc _ _ _=>sc
 | _=>{ kind:=.function,names:=[],isGenerator:=false,isCoroutine:=false }
abbrev bW:wC:=fun _ _ _ _ _ _=>False
abbrev E0:XK:=fun _ _ _=>False
theorem zN {X:Cx}:Passes bW X E0:=fun _ _ _ _ _ _ _ h=>h.elim
structure iT (K:PySem.W.Frag) (x qual:Str) (st:Stmt) (f:Addr) (fd:FuncData):Prop where
 ex:∃ (oc:Value) (od:Option Addr) (kV doc pm:Value) (an:Option Addr) (cdv ct:Value) (osl:Array (Option Value)),
   fd=PySem.W.fnOf x qual (ao st) (ak st) (aa st) .none kV doc pm an cdv ct∧K.lookup f=some ⟨oc,od,.func fd,osl⟩∧PySem.W.codeIn K cdv qual=true
 kp:PySem.W.keepIn K (.ref f)=true
section
variable {P:Program}{w:World}{K:PySem.W.Frag}{mg:Str→Option Value}{base:Heap}
theorem iT.ok {x qual:Str}{st:Stmt}{f:Addr}{fd:FuncData}{N ps:List Str}{k:Nat}{sp:Sp} (F:iT K x qual st f fd) (S:aC N ps (aa st)) (len:∀ vs H Q E,sp vs H Q E→vs.length=ps.length)
   (hbody:∀ (cdv:Value) (A:Around) (outer:List Env) (s:Shared) (H:Hp) (vs:List V) (Q:VK) (E:XK),dq k (A.deeper (envOfC qual (aa st) s.heap.objs.size f cdv))→sp vs H Q E →
     ∃ t,mO (yp bW P w K mg base N qual (aa st) f cdv A outer s H E).uT (ak st) t∧t { nx:=fun _ H'=>Q .non H',rt:=Q } (start N vs) H):bz P w K mg base bW (k+1) f fd ps sp:=by
 obtain⟨oc,od,kV,doc,pm,an,cdv,ct,osl,rfl,lk,hcd⟩:=F.ex
 refine Jl lk hcd S len fun A outer s H vs Q E hr hsp=>?_
 obtain⟨t,h,q⟩:=hbody cdv A outer s H vs Q E hr hsp
 exact⟨t,h.uT,q⟩
theorem iT.binds {x qual:Str}{st:Stmt}{f:Addr}{fd:FuncData}{ps:List Str} (F:iT K x qual st f fd)
   (h:∀ (kV doc pm:Value) (an:Option Addr) (cdv ct:Value) (us:List Value),us.length=ps.length→bindArgs (PySem.W.fnOf x qual (ao st) (ak st) (aa st) .none kV doc pm an cdv ct) ⟨us,[]⟩=pure (ps.zip us)):Binds K fd ps []:=by
 obtain⟨oc,od,kV,doc,pm,an,cdv,ct,osl,rfl,lk,hcd⟩:=F.ex
 exact .all (h kV doc pm an cdv ct)
theorem az {x qual:Str}{st:Stmt}{f:Addr}{oc:Value}{od an:Option Addr}{osl:Array (Option Value)}{kV doc pm cdv ct:Value} (l:K.lookup f=some ⟨oc,od,.func (PySem.W.fnOf x qual (ao st) (ak st) (aa st) .none kV doc pm an cdv ct),osl⟩)
   (c:PySem.W.codeIn K cdv qual=true) (k:PySem.W.keepIn K (.ref f)=true):iT K x qual st f (PySem.W.fnOf x qual (ao st) (ak st) (aa st) .none kV doc pm an cdv ct):=⟨⟨oc,od,kV,doc,pm,an,cdv,ct,osl,rfl,l,c⟩,k⟩
end
theorem xK {A:Around}{k:Nat} (hr:dq k A):A.units+1<cLine:=Nat.lt_of_le_of_lt (Nat.add_le_add_left (by decide:1≤64) _) hr.units
section
variable {X:Cx}
theorem pv (i:Nat) {x:Str}{pos:Pos} (hN:X.N[i]? = some x:=by rfl) (hv:Vis X.env.scope x:=by first | exact Or.inl rfl | exact Or.inr (Or.inl rfl) | exact Or.inr (Or.inr rfl)) (hd:(x == ("__debug__":Str))=false:=by decide)
   (hcd:(x == ("__classdict__":Str))=false:=by decide):PE X (.Name x pos) (Iz i):=QC hN hv hd hcd
end
theorem bN {A B:Prop} (h:B):if false=true then A else B:=by
 rw [if_neg Bool.false_ne_true]
 exact h
theorem bU {A B:Prop} (h:A):if true=true then A else B:=by
 rw [if_pos rfl]
 exact h
theorem yw {c A B:Prop} [Decidable c] (h1:c→A) (h2:¬ c→B):if c then A else B:=by
 by_cases h:c
 · rw [if_pos h]
   exact h1 h
 · rw [if_neg h]
   exact h2 h
def aD (H H':Hp):Prop:=∀ b o,H b=some o→H' b=some o
theorem aD.refl (H:Hp):aD H H:=fun _ _ h=>h
theorem aD.trans {H H1 H2:Hp} (a:aD H H1) (b:aD H1 H2):aD H H2:=fun c o h=>b c o (a c o h)
theorem aD.free {H H':Hp} (e:aD H H') {l:Addr} (h:H' l=Option.none):H l=Option.none:=by
 cases q:H l with
 | none=>rfl
 | some o =>
   rw [e l o q] at h
   cases h
theorem aD.seq {K:PySem.W.Frag}{H H':Hp}{a:Addr}{xs:List V} (e:aD H H') (h:bQ K H a xs):bQ K H' a xs:=by
 rcases h with (h | ⟨o,h⟩) | h
 · exact .inl (.inl (e _ _ h))
 · exact .inl (.inr ⟨o,e _ _ h⟩)
 · exact .inr h
end L2
namespace L2
open PySem PySem.Spec PyProof.Rows
section
variable {κ:Type} [DecidableEq κ]
def bR (kvs:List (κ × V)) (k:κ):Option V:=(kvs.find? fun kv=>decide (kv.1=k)).map (·.2)
def putK (kvs:List (κ × V)) (k:κ) (v:V):List (κ × V) :=
 if (kvs.any fun kv=>decide (kv.1=k))=true then kvs.map (fun kv=>if kv.1=k then (kv.1,v) else kv) else kvs++[(k,v)]
def Pz (kvs:List (κ × V)) (k:κ):List (κ × V):=kvs.filter fun kv=>decide (kv.1≠k)
theorem yU {p:κ × V}{r:List (κ × V)}{k:κ} (e:p.1=k):bR (p::r) k=some p.2:=by simp [bR,List.find?_cons,e]
theorem yV {p:κ × V}{r:List (κ × V)}{k:κ} (e:¬ p.1=k):bR (p::r) k=bR r k:=by simp [bR,List.find?_cons,e]
theorem kh (k:κ):∀ kvs:List (κ × V),(kvs.any fun kv=>decide (kv.1=k))=(bR kvs k).isSome
 | []=>rfl
 | p::r=>by
   rw [List.any_cons]
   by_cases e:p.1=k
   · simp only [yU e,decide_eq_true e,Bool.true_or,Option.isSome_some]
   · rw [yV e,decide_eq_false e,Bool.false_or];exact kh k r
theorem Bh (k j:κ) (y:V):∀ kvs:List (κ × V),bR (kvs.map fun kv=>if kv.1=k then (kv.1,y) else kv) j=(bR kvs j).map fun x=>if j=k then y else x
 | []=>rfl
 | p::r=>by
   have ih:=Bh k j y r
   rw [List.map_cons]
   by_cases h:p.1=k
   · rw [if_pos h]
     by_cases e:p.1=j
     · rw [yU (p:=(p.1,y)) e,yU e,Option.map_some,if_pos (e.symm.trans h)]
     · rw [yV (p:=(p.1,y)) e,yV e,ih]
   · rw [if_neg h]
     by_cases e:p.1=j
     · rw [yU (p:=p) e,yU e,Option.map_some,if_neg (fun z=>h (e.trans z))]
     · rw [yV (p:=p) e,yV e,ih]
theorem xT (k j:κ) (y:V):∀ kvs:List (κ × V),bR kvs k=none→bR (kvs++[(k,y)]) j=if j=k then some y else bR kvs j
 | [],_=>by
   by_cases e:k=j
   · rw [if_pos e.symm];exact yU (p:=(k,y)) e
   · rw [if_neg (fun z=>e z.symm)];exact yV (p:=(k,y)) e
 | p::r,hn=>by
   rw [List.cons_append]
   have hk:¬ p.1=k:=fun z=>by rw [yU z] at hn;cases hn
   rw [yV hk] at hn
   have ih:=xT k j y r hn
   by_cases e:p.1=j
   · rw [yU e,yU e,if_neg (fun z=>hk (e.trans z))]
   · rw [yV e,yV e,ih]
theorem xB (kvs:List (κ × V)) (k j:κ) (y:V):bR (putK kvs k y) j=if j=k then some y else bR kvs j:=by
 unfold putK
 by_cases a:(kvs.any fun kv=>decide (kv.1=k))=true
 · rw [if_pos a,Bh]
   rw [kh] at a
   by_cases e:j=k
   · obtain⟨x,hx⟩:=Option.isSome_iff_exists.mp a
     rw [if_pos e,e,hx,Option.map_some,if_pos rfl]
   · rw [if_neg e]
     cases bR kvs j with
     | none=>rfl
     | some x=>rw [Option.map_some,if_neg e]
 · rw [if_neg a]
   refine xT k j y kvs ?_
   rw [kh] at a
   cases q:bR kvs k with
   | none=>rfl
   | some x=>rw [q] at a;exact (a rfl).elim
theorem xC (kvs:List (κ × V)) (k:κ) (v:V):(putK kvs k v).length≤kvs.length+1:=by
 unfold putK
 split
 · rw [List.length_map];omega
 · rw [List.length_append,List.length_cons,List.length_nil];omega
theorem mL.kj {o:Option V}{u:Option Value} (r:mL o u):o.isSome=u.isSome:=by
 cases o with
 | none=>cases u with
   | none=>rfl
   | some _=>exact (show False from r).elim
 | some _=>cases u with
   | none=>exact (show False from r).elim
   | some _=>rfl
theorem mL.getD {o:Option V}{u:Option Value}{d:V}{d':Value} (r:mL o u) (rd:RelV d d'):RelV (o.getD d) (u.getD d'):=by
 cases o with
 | none=>cases u with
   | none=>exact rd
   | some _=>exact (show False from r).elim
 | some _=>cases u with
   | none=>exact (show False from r).elim
   | some _=>exact r
theorem KV.val {kvs:List (κ × V)}{vs:List (κ × Value)} (r:KV kvs vs) (k:κ):mL (bR kvs k) (valueAt vs k):=by
 unfold KV at r
 induction r with
 | nil=>exact True.intro
 | @cons p q ps qs h t ih =>
   obtain⟨h1,h2⟩:=h
   by_cases e:p.1=k
   · have e':q.1=k:=h1.symm.trans e
     have b:valueAt (q::qs) k=some q.2:=by simp [valueAt,List.find?_cons,e']
     rw [yU e,b];exact h2
   · have e':¬ q.1=k:=fun z=>e (h1.trans z)
     have b:valueAt (q::qs) k=valueAt qs k:=by simp [valueAt,List.find?_cons,e']
     rw [yV e,b];exact ih
theorem KV.any {kvs:List (κ × V)}{vs:List (κ × Value)} (r:KV kvs vs) (k:κ):(kvs.any fun kv=>decide (kv.1=k))=vs.any fun kv=>decide (kv.1=k):=by
 unfold KV at r
 induction r with
 | nil=>rfl
 | cons h t ih=>rw [List.any_cons,List.any_cons,ih,h.1]
theorem KV.repl {kvs:List (κ × V)}{vs:List (κ × Value)} (r:KV kvs vs) (k:κ) {y:V}{u:Value} (ry:RelV y u) :
   KV (kvs.map fun kv=>if kv.1=k then (kv.1,y) else kv) (vs.map fun kv=>if kv.1=k then (kv.1,u) else kv):=by
 unfold KV at r ⊢
 induction r with
 | nil=>exact .nil
 | @cons p q ps qs h t ih =>
   rw [List.map_cons,List.map_cons]
   refine .cons ?_ ih
   obtain⟨h1,h2⟩:=h
   by_cases e:p.1=k
   · rw [if_pos e,if_pos (h1.symm.trans e)];exact⟨h1,ry⟩
   · rw [if_neg e,if_neg (fun z=>e (h1.trans z))];exact⟨h1,h2⟩
theorem KV.put {kvs:List (κ × V)}{vs:List (κ × Value)} (r:KV kvs vs) (k:κ) {y:V}{u:Value} (ry:RelV y u):KV (putK kvs k y) (stored vs k u):=by
 unfold putK stored
 rw [r.any k]
 by_cases e:(vs.any fun kv=>decide (kv.1=k))=true
 · rw [if_pos e,if_pos e];exact r.repl k ry
 · rw [if_neg e,if_neg e];exact Paired.snoc r ⟨rfl,ry⟩
theorem KV.drop {kvs:List (κ × V)}{vs:List (κ × Value)} (r:KV kvs vs) (k:κ):KV (Pz kvs k) (without vs k):=by
 unfold KV at r ⊢
 unfold Pz without
 induction r with
 | nil=>exact .nil
 | @cons p q ps qs h t ih =>
   obtain⟨h1,h2⟩:=h
   rw [List.filter_cons,List.filter_cons]
   by_cases e:p.1=k
   · have a:¬ decide (p.1≠k)=true:=by simp [e]
     have b:¬ decide (q.1≠k)=true:=by simp [h1.symm.trans e]
     rw [if_neg a,if_neg b];exact ih
   · have e':¬ q.1=k:=fun z=>e (h1.trans z)
     have a:decide (p.1≠k)=true:=by simp [e]
     have b:decide (q.1≠k)=true:=by simp [e']
     rw [if_pos a,if_pos b];exact .cons ⟨h1,h2⟩ ih
theorem KV.keys {kvs:List (κ × V)}{vs:List (κ × Value)} (r:KV kvs vs):kvs.map (·.1)=vs.map (·.1):=by
 unfold KV at r
 induction r with
 | nil=>rfl
 | cons h t ih=>rw [List.map_cons,List.map_cons,ih,h.1]
theorem KV.length {kvs:List (κ × V)}{vs:List (κ × Value)} (r:KV kvs vs):kvs.length=vs.length:=Paired.length r
end
theorem uW {P:Program}{w:World}{k:Key}{u:Value} (r:RelV (kV k) u):(aO P w).is k u=true:=by
 cases k with
 | inl i=>obtain⟨t,e⟩:=(show ∃ t,u=Value.int i t from r);subst e;exact Ba P w i t
 | inr x=>obtain⟨t,e⟩:=(show ∃ t,u=Value.str x t from r);subst e;exact Bb P w x t
theorem xU {P:Program}{w:World}:∀ {ks:List Key}{us:List Value},Vals (ks.map kV) us→ItemsAre (aO P w) ks us
 | [],_,r=>by rw [List.map_nil] at r;cases r;exact .nil
 | k::ks,_,r=>by
   rw [List.map_cons] at r
   cases r with
   | cons h t=>exact .cons (uW h) (xU t)
abbrev KT (H:Hp):List (List Key × V)→List (List Key × Addr × Value)→Prop:=Paired fun p q=>p.1=q.1∧H q.2.1=some (.tup (p.1.map kV))∧RelV p.2 q.2.2
theorem KT.val {H:Hp}{kvs:List (List Key × V)}{xs:List (List Key × Addr × Value)} (r:KT H kvs xs) (k:List Key):mL (bR kvs k) ((atKey xs k).map (·.2)):=by
 induction r with
 | nil=>exact True.intro
 | @cons p q ps qs h t ih =>
   obtain⟨h1,_,h2⟩:=h
   by_cases e:p.1=k
   · have e':q.1=k:=h1.symm.trans e
     have b:atKey (q::qs) k=some q.2:=by simp [atKey,List.find?_cons,e']
     rw [yU e,b];exact h2
   · have e':¬ q.1=k:=fun z=>e (h1.trans z)
     have b:atKey (q::qs) k=atKey qs k:=by simp [atKey,List.find?_cons,e']
     rw [yV e,b];exact ih
theorem KT.repl {H:Hp}{kvs:List (List Key × V)}{xs:List (List Key × Addr × Value)} (r:KT H kvs xs) (k:List Key) {y:V}{u:Value} (ry:RelV y u) :
   KT H (kvs.map fun kv=>if kv.1=k then (kv.1,y) else kv) (xs.map (putAt k u)):=by
 induction r with
 | nil=>exact .nil
 | @cons p q ps qs h t ih =>
   rw [List.map_cons,List.map_cons]
   refine .cons ?_ ih
   obtain⟨h1,h2,h3⟩:=h
   unfold putAt
   by_cases e:p.1=k
   · rw [if_pos e,if_pos (h1.symm.trans e)];exact⟨h1,h2,ry⟩
   · rw [if_neg e,if_neg (fun z=>e (h1.trans z))];exact⟨h1,h2,h3⟩
theorem KT.put {H:Hp}{kvs:List (List Key × V)}{xs:List (List Key × Addr × Value)} (r:KT H kvs xs) (k:List Key) {b:Addr}{y:V}{u:Value} (hb:H b=some (.tup (k.map kV))) (ry:RelV y u) :
   KT H (putK kvs k y) (storedH xs k b u):=by
 have e:(kvs.any fun kv=>decide (kv.1=k))=(atKey xs k).isSome:=by
   rw [kh,(r.val k).kj,Option.isSome_map]
 unfold putK storedH
 rw [e]
 by_cases q:(atKey xs k).isSome=true
 · rw [if_pos q,if_pos q];exact r.repl k ry
 · rw [if_neg q,if_neg q];exact Paired.snoc r ⟨rfl,hb,ry⟩
theorem KT.keeps {H H':Hp}{kvs:List (List Key × V)}{xs:List (List Key × Addr × Value)} (r:KT H kvs xs) (ht:∀ b ys,H b=some (.tup ys)→H' b=some (.tup ys)):KT H' kvs xs :=
 Paired.Mr r fun _ _ z=>⟨z.1,ht _ _ z.2.1,z.2.2⟩
section
variable {P:Program}{w:World}{H:Hp}{h:Heap}{a:Addr}
theorem PB {u:HO} (ok:mW P w H h) (e:Rd H a u):bC P w H h a u:=e.ok ok
theorem pH {kvs:List (Key × V)} (ok:mW P w H h) (e:Rd H a (.dK kvs)):kvs.length≤sizeLine∧(a == sysModules)=false∧∃ vs,KV kvs vs∧h.DictOf (aO P w) a vs :=
 show bC P w H h a (.dK kvs) from PB ok e
theorem VM {kvs:List (Key × V)} (ok:mW P w H h) (e:H a=some (.dK kvs)):kvs.length≤sizeLine∧(a == sysModules)=false∧∃ vs,KV kvs vs∧h.DictOf (aO P w) a vs:=pH ok (.inl e)
theorem mZ {ks:List Key} (ok:mW P w H h) (e:H a=some (.tup (ks.map kV))):(tupleKind (aO P w)).is h ks a:=by
 obtain⟨_,its,r,o,h1,h2,n,h3⟩:=(show bC P w H h a (.tup (ks.map kV)) from ok a _ e)
 exact⟨o,its.toArray,n,h1,h2,h3,by simpa using xU r⟩
theorem tM {kvs:List (List Key × V)} (ok:mW P w H h) (e:Rd H a (.dT kvs)):kvs.length≤sizeLine∧(a == sysModules)=false ∧
   ∃ xs,KT H kvs xs∧h.DictOfH (tupleKind (aO P w)) a xs:=by
 obtain⟨z,y,xs,r,o,es,ep,h1,h2,h3,h4,h5⟩:=(show bC P w H h a (.dT kvs) from PB ok e)
 refine⟨z,y,xs,r,o,es,ep,h1,h2,h3,h4,fun x hx=>?_,h5⟩
 have all:∀ {l:List (List Key × V)}{m:List (List Key × Addr × Value)},KT H l m→∀ x∈m,(tupleKind (aO P w)).is h x.1 x.2.1:=by
   intro l m q
   induction q with
   | nil=>intro x hx;exact nomatch hx
   | @cons p q ps qs hq t ih =>
     intro x hx
     rcases List.mem_cons.mp hx with e | hx
     · subst e
       exact mZ ok (by rw [← hq.1];exact hq.2.1)
     · exact ih x hx
 exact all r x hx
theorem VN {kvs:List (List Key × V)} (ok:mW P w H h) (e:H a=some (.dT kvs)):kvs.length≤sizeLine∧(a == sysModules)=false ∧
   ∃ xs,KT H kvs xs∧h.DictOfH (tupleKind (aO P w)) a xs:=tM ok (.inl e)
end
def fX (H:Hp) (a:Addr) (y:V) (r:Option V):Prop :=
 (∃ kvs k,Rd H a (.dK kvs)∧y=kV k∧r=bR kvs k)∨∃ kvs k b,Rd H a (.dT kvs)∧y=.ref b∧H b=some (.tup (k.map kV))∧r=bR kvs k
def uX (H:Hp) (a:Addr) (y v:V) (H':Hp):Prop :=
 (∃ kvs k,H a=some (.dK kvs)∧y=kV k∧kvs.length<sizeLine∧H'=upd H a (.dK (putK kvs k v))) ∨
 ∃ kvs k b,H a=some (.dT kvs)∧y=.ref b∧H b=some (.tup (k.map kV))∧kvs.length<sizeLine∧H'=upd H a (.dT (putK kvs k v))
theorem fX.k {H:Hp}{a:Addr}{kvs:List (Key × V)}{k:Key} (e:H a=some (.dK kvs)):fX H a (kV k) (bR kvs k):=.inl ⟨kvs,k,.inl e,rfl,rfl⟩
theorem fX.t {H:Hp}{a b:Addr}{kvs:List (List Key × V)}{k:List Key} (e:H a=some (.dT kvs)) (eb:H b=some (.tup (k.map kV))):fX H a (.ref b) (bR kvs k):=.inr ⟨kvs,k,b,.inl e,rfl,eb,rfl⟩
theorem uX.k {H:Hp}{a:Addr}{kvs:List (Key × V)}{k:Key}{v:V} (e:H a=some (.dK kvs)) (hl:kvs.length<sizeLine):uX H a (kV k) v (upd H a (.dK (putK kvs k v))):=.inl ⟨kvs,k,e,rfl,hl,rfl⟩
theorem uX.t {H:Hp}{a b:Addr}{kvs:List (List Key × V)}{k:List Key}{v:V} (e:H a=some (.dT kvs)) (eb:H b=some (.tup (k.map kV))) (hl:kvs.length<sizeLine) :
   uX H a (.ref b) v (upd H a (.dT (putK kvs k v))):=.inr ⟨kvs,k,b,e,rfl,eb,hl,rfl⟩
section
variable {X:Cx}{pins:List (Addr × Obj)}{σ:St}{H:Hp}{s:Shared}{a:Addr}{y v:V}{u r:Value}{o:Option V}{A:Around}{E:Value→Shared→Prop}
theorem Inv.big (I:Inv X pins σ H s):sysModules<s.heap.objs.size:=by
 have h:mainGlobals<s.heap.objs.size:=(I.mod.glob.keeps I.bk).lt
 exact Nat.lt_trans (by decide) h
theorem Hm {Q:Value→Shared→Prop} (hu:A.units+1<cLine) (I:Inv X pins σ H s) (g:fX H a y (some v)) (ry:RelV y u) (h:∀ w' s',Inv X pins σ H s'→RelV v w'→Q w' s') :
   wpAny (model X.prog X.w) A (getItem (.ref a) u) Q E s:=by
 rcases g with ⟨kvs,k,e,ey,l⟩ | ⟨kvs,k,b,e,ey,eb,l⟩
 · subst ey
   obtain⟨z,hd,vs,rel,dd⟩:=pH I.hok e
   obtain⟨w',hw,Hj⟩:=mL.some_of (v:=v) (o:=valueAt vs k) (by rw [l];exact rel.val k)
   exact wpAny_getItem_of (uW ry) dd.mapOf hw (h w' _ (I.tok _) Hj)
 · subst ey
   cases (show u=Value.ref b from ry)
   obtain⟨z,hd,xs,rel,dd⟩:=tM I.hok e
   obtain⟨w',hw,Hj⟩:=mL.some_of (v:=v) (o:=(atKey xs k).map (·.2)) (by rw [l];exact rel.val k)
   obtain⟨p,hp,hp2⟩:=Option.map_eq_some_iff.mp hw
   refine wpAny_getItem_heap (tupleKind_room_in1 hu) (mZ I.hok eb) dd hp ?_
   rw [hp2]
   exact h w' _ (I.tok _) Hj
theorem aeR {Q:Value→Shared→Prop} (hu:A.units+1<cLine) (I:Inv X pins σ H s) (g:fX H a y o) (ry:RelV y u) (h:∀ s',Inv X pins σ H s'→Q (.bool o.isSome) s') :
   wpAny (model X.prog X.w) A (compareOp .In u (.ref a)) Q E s:=by
 rcases g with ⟨kvs,k,e,ey,l⟩ | ⟨kvs,k,b,e,ey,eb,l⟩
 · subst ey
   obtain⟨z,hd,vs,rel,dd⟩:=pH I.hok e
   refine wpAny_in_of (uW ry) hd dd.mapOf ?_
   rw [← (rel.val k).kj,← l]
   exact h _ (I.tok _)
 · subst ey
   cases (show u=Value.ref b from ry)
   obtain⟨z,hd,xs,rel,dd⟩:=tM I.hok e
   refine wpAny_in_heap (tupleKind_room_in1 hu) (mZ I.hok eb) hd dd ?_
   have q:=(rel.val k).kj
   rw [Option.isSome_map] at q
   rw [← q,← l]
   exact h _ (I.tok _)
theorem M7 {Q:Value→Shared→Prop} (hu:A.units+1<cLine) (I:Inv X pins σ H s) (g:fX H a y o) (ry:RelV y u) (h:∀ s',Inv X pins σ H s'→Q (.bool (!o.isSome)) s') :
   wpAny (model X.prog X.w) A (compareOp .NotIn u (.ref a)) Q E s:=by
 rcases g with ⟨kvs,k,e,ey,l⟩ | ⟨kvs,k,b,e,ey,eb,l⟩
 · subst ey
   obtain⟨z,hd,vs,rel,dd⟩:=pH I.hok e
   refine wpAny_notIn_of (uW ry) hd dd.mapOf ?_
   rw [← (rel.val k).kj,← l]
   exact h _ (I.tok _)
 · subst ey
   cases (show u=Value.ref b from ry)
   obtain⟨z,hd,xs,rel,dd⟩:=tM I.hok e
   refine wpAny_notIn_heap (tupleKind_room_in1 hu) (mZ I.hok eb) hd dd ?_
   have q:=(rel.val k).kj
   rw [Option.isSome_map] at q
   rw [← q,← l]
   exact h _ (I.tok _)
theorem Gj {h':Heap}{t':Nat}{ob:HO} (I:Inv X pins σ H s) (mu:Vk (H a)) (hs:Heap.SameBut a s.heap h') (he:∃ q,h'.get? a=some q) (new:bC X.prog X.w (upd H a ob) h' a ob) :
   Inv X pins σ (upd H a ob) { s with heap:=h',toks:=t' } :=
 I.write (x:=a) (e:=a) mu (.inl rfl) (fun b q hb z=>(hs.2 b hb).trans z) he new
theorem QZ {P:Program}{w:World}{H':Hp}{h':Heap}{kvs:List (Key × V)}{vs:List (Key × Value)} (z:kvs.length≤sizeLine) (hd:(a == sysModules)=false) (rel:KV kvs vs) (dd:h'.DictOf (aO P w) a vs) :
   bC P w H' h' a (.dK kvs):=⟨z,hd,vs,rel,dd⟩
theorem Hn {H':Hp}{Q:Unit→Shared→Prop} (hu:A.units+1<cLine) (I:Inv X pins σ H s) (g:uX H a y v H') (ry:RelV y u) (rv:RelV v r) (h:∀ s',Inv X pins σ H' s'→Q () s') :
   wpAny (model X.prog X.w) A (setItem (.ref a) u r) Q E s:=by
 rcases g with ⟨kvs,k,e,ey,l,eH⟩ | ⟨kvs,k,b,e,ey,eb,l,eH⟩
 · subst ey eH
   obtain⟨z,hd,vs,rel,dd⟩:=VM I.hok e
   have hz:vs.length≤sizeLine:=by rw [← rel.length];exact z
   have hl:(putK kvs k v).length≤sizeLine:=by have:=xC kvs k v;omega
   refine wpAny_setItem_pairs (hsz:=hz) (uW ry) dd fun h' dd' hs=>h _ ?_
   have he:∃ q,h'.get? a=some q:=let ⟨q,_,_,hq,_⟩:=dd'; ⟨q,hq⟩
   exact Gj I (by rw [e];exact True.intro) hs he (QZ hl hd (rel.put k rv) dd')
 · subst ey eH
   cases (show u=Value.ref b from ry)
   obtain⟨z,hd,xs,rel,dd⟩:=VN I.hok e
   have hz:xs.length≤sizeLine:=by rw [← Paired.length rel];exact z
   have hl:(putK kvs k v).length≤sizeLine:=by have:=xC kvs k v;omega
   refine wpAny_setItem_heap (hsz:=hz) (tupleKind_room_in1 hu) (mZ I.hok eb) dd fun h' dd' hs=>h _ ?_
   obtain⟨q,es,ep,hq,h2,h3,h4,_,h5⟩:=dd'
   refine Gj I (by rw [e];exact True.intro) hs ⟨q,hq⟩ ⟨hl,hd,_,(rel.put k eb rv).keeps fun c ys ec=>?_,q,es,ep,hq,h2,h3,h4,h5⟩
   rw [zG (yL ec e (fun z=>nomatch z))]
   exact ec
end
section
variable {X:Cx}{pins:List (Addr × Obj)}{σ:St}{H:Hp}{s:Shared}{a:Addr}{kvs:List (Key × V)}{k:Key}{u:Value}{A:Around}{E:Value→Shared→Prop}
end
def VP (i:Expr):Prop:=∀ ov iv,subscripted i false ov iv=operate [ov,iv] (getItem ov iv)
theorem M8 {prog:Program}{w:World}{A:Around}{E:Value→Shared→Prop}{s:Shared}{env:Env}{value slice:Expr}{pos:Pos}{T id:String}{Q:Value→Shared→Prop}
   (hl:typeLookup (.type T) "__getitem__" = pure (some (.builtin id))) (hs:VP slice)
   (h:wpAny (model prog w) A (eval value env) (fun o s₁=>wpAny (model prog w) A (eval slice env) (fun i s₂=>s₂.TypeIs o T∧wpAny (model prog w) A (getItem o i) Q E s₂) E s₁) E s) :
   wpAny (model prog w) A (eval (.Subscript value slice pos) env) Q E s:=by
 refine Subscript_ (wpAny_mono h (fun o s₁ h₁=>wpAny_mono h₁ (fun i s₂ h₂=>?_) fun _ _ x=>x) fun _ _ x=>x)
 obtain⟨hT,h₂⟩:=h₂
 unfold subscriptTail
 refine wpAny_bind ?_
 rw [getitemInPython_of_ne hT.not_modules]
 refine wpAny_bind (wpAny_specialOf hT hl ?_)
 have fin:wpAny (model prog w) A (subscripted slice false o i) (fun r s₃=>wpAny (model prog w) A (letTemporaryGo value o r >>= fun _=>pure r) Q E s₃) E s₂:=by
   rw [hs o i]
   exact wpAny_operating (wpAny_mono h₂ (fun r s₃ h₃=>wpAny_bind (wpAny_letTemporaryGo (wpAny_pure h₃))) fun _ _ x=>x)
 first
   | exact wpAny_pure (wpAny_bind fin)
   | exact wpAny_bind (wpAny_pure (wpAny_bind fin))
   | exact wpAny_bind fin
theorem Bj {X:Cx}{pins:List (Addr × Obj)}{σ:St}{H:Hp}{s:Shared}{a:Addr}{y:V}{o:Option V} (I:Inv X pins σ H s) (g:fX H a y o):s.TypeIs (.ref a) "dict":=by
 rcases g with ⟨kvs,k,e,_,_⟩ | ⟨kvs,k,b,e,_,_,_⟩
 · obtain⟨_,_,vs,_,dd⟩:=pH I.hok e
   exact dd.typeIs
 · obtain⟨_,_,xs,_,dd⟩:=tM I.hok e
   exact dd.typeIs
def VR (td ty:TE):TE:=fun σ H Q=>td σ H fun x H1=>ty σ H1 fun y H2=>∃ a v,x=.ref a∧fX H2 a y (some v)∧Q v H2
def V0 (td ty tv:TE):TS:=fun D σ H=>tv σ H fun v H1=>td σ H1 fun x H2=>ty σ H2 fun y H3=>∃ a H4,x=.ref a∧uX H3 a y v H4∧D.nx σ H4
section
variable {X:Cx}{o i e value:Expr}{pos pos' tpos:Pos}{td ty tv:TE}
theorem lA (hu:X.A.units+1<cLine) (ho:PE X o td) (hi:PE X i ty) (hs:VP i):PE X (.Subscript o i pos) (VR td ty):=by
 intro pins s σ H Q I h
 refine M8 PySem.F.slot_dict_getitem.lookup hs (dh (ho pins s σ H _ I h) fun u s1 ⟨x,H1,I1,rx,q1⟩=>dh (hi pins s1 σ H1 _ I1 q1) fun iv s2 zq=>?_)
 obtain⟨y,H2,I2,ry,a,v,ex,g,q2⟩:=zq
 subst ex
 obtain rfl:u=Value.ref a:=rx
 exact⟨Bj I2 g,Hm hu I2 g ry fun w' s3 I3 Hj=>⟨v,H2,I3,Hj,q2⟩⟩
theorem qz (hu:X.A.units+1<cLine) (ho:PE X o td) (hi:PE X i ty) (hv:PE X value tv) (hs:swapsWith value (some (.Subscript o i pos')) pos.line X.env=pure false) :
   PS X (.Assign [.Subscript o i pos'] value pos) (V0 td ty tv):=by
 intro pins s σ H D I h
 refine wpAny_Assign_Subscript (dh (hv pins s σ H _ I h) fun r s1 ⟨v,H1,I1,rv,q1⟩=>dh (ho pins s1 σ H1 _ I1 q1) fun u s2 ⟨x,H2,I2,rx,q2⟩=>dh (hi pins s2 σ H2 _ I2 q2) fun iv s3 ⟨y,H3,I3,ry,a,H4,ex,g,q3⟩=>?_) hs
 subst ex
 obtain rfl:u=Value.ref a:=rx
 exact Hn hu I3 g ry rv fun s4 I4=>⟨σ,H4,I4,q3⟩
end
theorem Jr {P:Program}{w:World}{H:Hp} (h:Heap) (hb:sysModules<h.objs.size):bC P w H (h.push { cls:=.type "dict",data:=.dict #[] }) h.objs.size (.dK []) :=
 ⟨Nat.zero_le _,beq_eq_false_iff_ne.mpr (Ne.symm (Nat.ne_of_lt hb)),[],.nil,Heap.DictOf.new h⟩
def Q0:TE:=fun _ H Q=>∀ p,H p=none→Q (.ref p) (upd H p (.dK []))
section
variable {X:Cx}{pos:Pos}
theorem km:PE X (.Dict [] [] pos) Q0:=fun pins s σ H Q I h =>
 wpAny_Dict_empty ⟨.ref s.heap.objs.size,_,I.laid (a:=s.heap.objs.size) (o:=.dK []) (t':=s.toks) (fun _ _ q=>Heap.get?_push_of_some _ q) (Nat.le_refl _) (Jr s.heap I.big),rfl,h _ (I.hok.fresh (Nat.le_refl _))⟩
end
def Js:List (TE × TE)→St→Hp→(List (V × V)→Hp→Prop)→Prop
 | [],_,H,Q=>Q [] H
 | (tk,tv)::r,σ,H,Q=>tk σ H fun x H1=>tv σ H1 fun y H2=>Js r σ H2 fun ps H3=>Q ((x,y)::ps) H3
abbrev VV:List (V × V)→List (Value × Value)→Prop:=Paired fun p q=>RelV p.1 q.1∧RelV p.2 q.2
def xV (X:Cx) (pos:Pos) (keys:List (Option Expr)) (values:List Expr) (trs:List (TE × TE)):Prop :=
 ∀ (pins:List (Addr × Obj)) (s:Shared) (σ:St) (H:Hp) (Q:List (V × V)→Hp→Prop),Inv X pins σ H s→Js trs σ H Q →
   wpAny (model X.prog X.w) X.A (evalPairs (pairTrees keys values X.env pos)) (fun vs s'=>∃ ps H',Inv X pins σ H' s'∧VV ps vs∧Q ps H') X.xe s
structure M1 (X:Cx) (o:Expr) (m:Str) (apos:Pos) (e:Expr) (cpos:Pos):Prop where
 base:attributeBase o m X.env (eval o X.env)=eval o X.env
 few:((backTo cpos (starEach [e] X.env)).all (fun x=>!x.1) && (backToKw cpos (keywordEach [] X.env)).all (fun x=>x.1.isSome)
   && decide (([e]:List Expr).length+([]:List Keyword).length+(if ([]:List Keyword).isEmpty then 0 else 1)<30))=true
 line:(apos.endLine == cpos.line)=true
 trees:backTo cpos (starEach [e] X.env)=[(false,eval e X.env)]
structure M2 (X:Cx) (o:Expr) (m:Str) (apos:Pos) (e f:Expr) (cpos:Pos):Prop where
 base:attributeBase o m X.env (eval o X.env)=eval o X.env
 few:((backTo cpos (starEach [e,f] X.env)).all (fun x=>!x.1) && (backToKw cpos (keywordEach [] X.env)).all (fun x=>x.1.isSome)
   && decide (([e,f]:List Expr).length+([]:List Keyword).length+(if ([]:List Keyword).isEmpty then 0 else 1)<30))=true
 line:(apos.endLine == cpos.line)=true
 trees:backTo cpos (starEach [e,f] X.env)=[(false,eval e X.env),(false,eval f X.env)]
def IsD (H:Hp) (a:Addr):Prop:=(∃ kvs,Rd H a (.dK kvs))∨∃ kvs,Rd H a (.dT kvs)
theorem Jt {X:Cx}{pins:List (Addr × Obj)}{σ:St}{H:Hp}{s:Shared}{a:Addr} (I:Inv X pins σ H s) (d:IsD H a) :
   s.TypeIs (.ref a) "dict"∧(∀ b,Value.ref a=.ref b→∃ ob,s.heap.get? b=some ob∧ob.dict=none)∧(a == sysModules)=false:=by
 rcases d with ⟨kvs,e⟩ | ⟨kvs,e⟩
 · obtain⟨_,hd,vs,_,dd⟩:=pH I.hok e
   refine⟨dd.typeIs,fun b q=>?_,hd⟩
   cases q
   obtain⟨ob,_,_,h1,h2,_⟩:=dd
   exact⟨ob,h1,h2.2.1⟩
 · obtain⟨_,hd,xs,_,dd⟩:=tM I.hok e
   refine⟨dd.typeIs,fun b q=>?_,hd⟩
   cases q
   obtain⟨ob,_,_,h1,h2,_⟩:=dd
   exact⟨ob,h1,h2.2.1⟩
section
variable {X:Cx}{pins:List (Addr × Obj)}{σ:St}{H:Hp}{s:Shared}{a:Addr}{y d:V}{u r:Value}{o:Option V}{A:Around}{E:Value→Shared→Prop}
theorem Q3 {Q:Value→Shared→Prop} (hu:A.units+1<cLine) (I:Inv X pins σ H s) (g:fX H a y o) (ry:RelV y u) (h:∀ w' s',Inv X pins σ H s'→RelV (o.getD .non) w'→Q w' s') :
   wpAny (model X.prog X.w) A (call (.builtin "dict.get") [.ref a,u]) Q E s:=by
 rcases g with ⟨kvs,k,e,ey,l⟩ | ⟨kvs,k,b,e,ey,eb,l⟩
 · subst ey
   obtain⟨z,hd,vs,rel,dd⟩:=pH I.hok e
   refine call_meetsIn PySem.F.slot_dict_get dd.typeIs PySem.F.entry_dict_get (PySem.F.args_dict_get_2 _ _) (meets_dict_get (aO X.prog X.w) a (uW ry) hd) ⟨_,dd.mapOf,h _ _ (I.tok _) ?_⟩
   rw [l]
   exact (rel.val k).getD rfl
 · subst ey
   cases (show u=Value.ref b from ry)
   obtain⟨z,hd,xs,rel,dd⟩:=tM I.hok e
   refine call_meetsIn PySem.F.slot_dict_get dd.typeIs PySem.F.entry_dict_get (PySem.F.args_dict_get_2 _ _) (meetsH_dict_get (tupleKind (aO X.prog X.w)) a b hd) ⟨tupleKind_room_in1 hu,k,xs,mZ I.hok eb,dd,h _ _ (I.tok _) ?_⟩
   rw [l]
   exact (rel.val k).getD rfl
theorem Q4 {Q:Value→Shared→Prop} (hu:A.units+1<cLine) (I:Inv X pins σ H s) (g:fX H a y o) (ry:RelV y u) (rd:RelV d r) (h:∀ w' s',Inv X pins σ H s'→RelV (o.getD d) w'→Q w' s') :
   wpAny (model X.prog X.w) A (call (.builtin "dict.get") [.ref a,u,r]) Q E s:=by
 rcases g with ⟨kvs,k,e,ey,l⟩ | ⟨kvs,k,b,e,ey,eb,l⟩
 · subst ey
   obtain⟨z,hd,vs,rel,dd⟩:=pH I.hok e
   refine call_meetsIn PySem.F.slot_dict_get dd.typeIs PySem.F.entry_dict_get (PySem.F.args_dict_get_3 _ _ _) (meets_dict_get_default (aO X.prog X.w) a (uW ry) hd r) ⟨_,dd.mapOf,h _ _ (I.tok _) ?_⟩
   rw [l]
   exact (rel.val k).getD rd
 · subst ey
   cases (show u=Value.ref b from ry)
   obtain⟨z,hd,xs,rel,dd⟩:=tM I.hok e
   refine call_meetsIn PySem.F.slot_dict_get dd.typeIs PySem.F.entry_dict_get (PySem.F.args_dict_get_3 _ _ _) (meetsH_dict_get_default (tupleKind (aO X.prog X.w)) a b hd r) ⟨tupleKind_room_in1 hu,k,xs,mZ I.hok eb,dd,h _ _ (I.tok _) ?_⟩
   rw [l]
   exact (rel.val k).getD rd
end
def Q5 (td ty:TE):TE:=fun σ H Q=>td σ H fun x H1=>∃ a,x=.ref a∧IsD H1 a∧ty σ H1 fun y H2=>∃ o,fX H2 a y o∧Q (o.getD .non) H2
def Q6 (td ty tx:TE):TE:=fun σ H Q=>td σ H fun x H1=>∃ a,x=.ref a∧IsD H1 a∧ty σ H1 fun y H2=>tx σ H2 fun z H3=>∃ o,fX H3 a y o∧Q (o.getD z) H3
section
variable {X:Cx}{o e f:Expr}{apos cpos:Pos}{td ty tx:TE}
theorem uY (hu:X.A.units+1<cLine) (ho:PE X o td) (he:PE X e ty) (m:M1 X o "get" apos e cpos):PE X (.Call (.Attribute o "get" apos) [e] [] cpos) (Q5 td ty):=by
 intro pins s σ H Q I h
 refine wpAny_Call_method m.base m.few m.line PySem.F.plainAttrs_dict PySem.F.slot_dict_get PySem.F.type_dict_get (dh (ho pins s σ H _ I h) fun u s1 zq=>?_)
 obtain⟨x,H1,I1,rx,a,ex,d,q1⟩:=zq
 subst ex
 obtain rfl:u=Value.ref a:=rx
 obtain⟨t1,t2,_⟩:=Jt I1 d
 refine⟨t1,t2,?_⟩
 rw [m.trees]
 refine Calls.callWith_builtin rfl (Calls.evalArgs_plain (Calls.spliced_cons (dh (he pins s1 σ H1 _ I1 q1) fun iv s2 ⟨y,H2,I2,ry,ov,g,q2⟩=>Calls.spliced_nil ?_)))
 exact Q3 hu I2 g ry fun w' s3 I3 Hj=>⟨_,H2,I3,Hj,q2⟩
theorem Ju (hu:X.A.units+1<cLine) (ho:PE X o td) (he:PE X e ty) (hf:PE X f tx) (m:M2 X o "get" apos e f cpos):PE X (.Call (.Attribute o "get" apos) [e,f] [] cpos) (Q6 td ty tx):=by
 intro pins s σ H Q I h
 refine wpAny_Call_method m.base m.few m.line PySem.F.plainAttrs_dict PySem.F.slot_dict_get PySem.F.type_dict_get (dh (ho pins s σ H _ I h) fun u s1 zq=>?_)
 obtain⟨x,H1,I1,rx,a,ex,d,q1⟩:=zq
 subst ex
 obtain rfl:u=Value.ref a:=rx
 obtain⟨t1,t2,_⟩:=Jt I1 d
 refine⟨t1,t2,?_⟩
 rw [m.trees]
 refine Calls.callWith_builtin rfl (Calls.evalArgs_plain (Calls.spliced_cons (dh (he pins s1 σ H1 _ I1 q1) fun iv s2 ⟨y,H2,I2,ry,q2⟩ =>
   Calls.spliced_cons (dh (hf pins s2 σ H2 _ I2 q2) fun fv s3 ⟨z,H3,I3,rz,ov,g,q3⟩=>Calls.spliced_nil ?_))))
 exact Q4 hu I3 g ry rz fun w' s4 I4 Hj=>⟨_,H3,I4,Hj,q3⟩
end
section
variable {X:Cx}{pins:List (Addr × Obj)}{σ:St}{H:Hp}{s:Shared}{a:Addr}{kvs:List (Key × V)}{A:Around}{E:Value→Shared→Prop}
end
section
variable {X:Cx}{pins:List (Addr × Obj)}{σ:St}{H:Hp}{s:Shared}{a:Addr}{y:V}{u:Value}{A:Around}{E:Value→Shared→Prop}
end
end L2
namespace L2
open PySem PySem.Spec PyProof.Rows
section
variable {X:Cx}
end
section
variable {κ:Type} [DecidableEq κ]
theorem Jv {kvs:List (κ × V)}{k:κ} (h:bR kvs k=none):¬ k∈kvs.map (·.1):=by
 intro m
 obtain⟨p,hp,e⟩:=List.mem_map.mp m
 have q:(kvs.any fun kv=>decide (kv.1=k))=true:=List.any_eq_true.mpr ⟨p,hp,decide_eq_true e⟩
 rw [kh,h] at q
 exact absurd q (by simp)
theorem M9 {kvs:List (κ × V)}{k:κ}{v:V} (h:bR kvs k=some v):k∈kvs.map (·.1):=by
 have q:(kvs.any fun kv=>decide (kv.1=k))=true:=by
   rw [kh,h]
   all_goals rfl
 obtain⟨p,hp,e⟩:=List.any_eq_true.mp q
 exact List.mem_map.mpr ⟨p,hp,of_decide_eq_true e⟩
end
end L2
namespace L2
open PySem PySem.Spec PyProof.Rows PySem.Calls
section
variable {prog:Program}{w:World}{A:Around}{R:Result→Shared→Prop}{s:Shared}
theorem Bl {elt target iter:Expr}{scope:Scope}{pos:Pos}{it acc:Value}{env:Env} (I:Nat→Shared→Prop)
   (turn:∀ n s,I n s→wpAny (model prog w) A (pyNext it) (fun r s₁=>match r with
     | none=>R (.ok .next) s₁
     | some v=>wpAny (model prog w) A (letOwnedTupleGo target it v) (fun _ s₂=>wpAny (model prog w) A (assign target env v) (fun _ s₃ =>
         wpAny (model prog w) A (eval elt env) (fun x s₄ =>
           wpAny (model prog w) A (call (.builtin "list.append") [acc,x]) (fun _ s₅=>∃ m,m<n∧I m s₅) (notedBy (model prog w) A env fun e s'=>R (.error e) s') s₄)
           (notedBy (model prog w) A env fun e s'=>R (.error e) s') s₃) (notedBy (model prog w) A env fun e s'=>R (.error e) s') s₂) (notedBy (model prog w) A env fun e s'=>R (.error e) s') s₁)
     (notedBy (model prog w) A env fun e s'=>R (.error e) s') s)
   (n:Nat) (h:I n s):codeAny (model prog w) A (.compLoop (.ListComp elt [⟨target,iter,[],0⟩] scope pos) 0 it acc env) R s:=by
 refine codeAny_loop rfl I (fun n s hI=>?_) n h
 show wpAny _ A ((compTurn (.ListComp elt [⟨target,iter,[],0⟩] scope pos) 0 it acc env).onRaise (fun x=>do noteFrame x env;theTreesLotGoes x)) _ _ s
 refine wpAny_noted ?_
 rw [compTurn_list1]
 refine wpAny_bind (wpAny_standAt (wpAny_bind (wpAny_mono (turn n s hI) (fun r s₁ h₁=>?_) fun _ _ h'=>h')))
 cases r with
 | none=>exact wpAny_pure h₁
 | some v =>
   refine wpAny_bind (wpAny_mono h₁ (fun _ s₂ h₂=>wpAny_bind (wpAny_mono h₂ (fun _ s₃ h₃=>?_) fun _ _ h'=>h')) fun _ _ h'=>h')
   exact wpAny_bind (wpAny_bind (wpAny_mono h₃ (fun x s₄ h₄=>wpAny_bind (wpAny_mono h₄ (fun _ s₅ h₅=>wpAny_pure (wpAny_pure ⟨rfl,h₅⟩)) fun _ _ h'=>h')) fun _ _ h'=>h'))
end
def fj (env:Env):List (Str × NameKind)→List (Str × Addr)→List (Str × Addr)
 | [],cs=>cs
 | (n,k)::r,cs=>fj env r (if k == .free then match env.cells.lookup n with | some c=>(n,c)::cs | none=>cs else cs)
theorem Bm {env:Env}:∀ {ns:List (Str × NameKind)}{cs:List (Str × Addr)}{y:Str}{c:Addr},(y,c)∈fj env ns cs→(y,c)∈cs∨env.cells.lookup y=some c
 | [],_,_,_,h=>.inl h
 | (n,k)::r,cs,y,c,h=>by
   unfold fj at h
   rcases Bm h with q | q
   · split at q
     · cases e:env.cells.lookup n with
       | none=>rw [e] at q;exact .inl q
       | some d =>
         rw [e] at q
         rcases List.mem_cons.mp q with z | z
         · cases z;exact .inr e
         · exact .inl z
     · exact .inl q
   · exact .inr q
theorem Bo {env:Env}:∀ {ns:List (Str × NameKind)}{cs:List (Str × Addr)}{y:Str},((∃ c,(y,c)∈cs)∨((y,NameKind.free)∈ns∧∃ c,env.cells.lookup y=some c))→∃ c,(y,c)∈fj env ns cs
 | [],_,_,h=>by
   rcases h with h | ⟨h,_⟩
   · exact h
   · cases h
 | (n,k)::r,cs,y,h=>by
   unfold fj
   apply Bo
   rcases h with ⟨c,h⟩ | ⟨h,c,e⟩
   · left
     split
     · cases e:env.cells.lookup n with
       | none=>exact⟨c,h⟩
       | some d=>exact⟨c,List.mem_cons_of_mem _ h⟩
     · exact⟨c,h⟩
   · rcases List.mem_cons.mp h with z | z
     · cases z
       left
       rw [e]
       exact⟨c,by simp⟩
     · exact .inr ⟨z,c,e⟩
theorem uZ {env:Env}:∀ {ns:List (Str × NameKind)}{cs:List (Str × Addr)},(∀ y,(y,NameKind.free)∈ns→∃ c,env.cells.lookup y=some c) →
   (forIn ns cs fun (x:Str × NameKind) (r:List (Str × Addr))=>(if x.2 == NameKind.free then (do let c ← cellOf env x.1;pure (ForInStep.yield ((x.1,c)::r))) else pure (ForInStep.yield r):Sem (ForInStep (List (Str × Addr)))))=(pure (fj env ns cs):Sem (List (Str × Addr)))
 | [],_,_=>rfl
 | (n,k)::r,cs,h=>by
   have ih:=@uZ env r
   rw [List.forIn_cons]
   unfold fj
   cases hk:k == NameKind.free with
   | false =>
     simp only [Bool.false_eq_true,if_false]
     exact ih fun y hy=>h y (List.mem_cons_of_mem _ hy)
   | true =>
     have ek:k=NameKind.free:=by simpa using hk
     subst ek
     obtain⟨c,e⟩:=h n (by simp)
     have ec:cellOf env n=pure c:=by unfold cellOf;rw [e]
     simp only [if_true]
     rw [ec,e]
     exact ih fun y hy=>h y (List.mem_cons_of_mem _ hy)
theorem DN {scope:Scope}{env:Env} (h:∀ y,(y,NameKind.free)∈scope.names→∃ c,env.cells.lookup y=some c):closureFor scope env=pure (fj env scope.names []):=by
 have q:=uZ (cs:=[]) h
 unfold closureFor
 exact congrArg (fun m=>m >>= fun r=>pure r) q
end L2
namespace L2
open PySem PySem.Spec PyProof.Rows PySem.Calls
theorem xL {env:Env}{y:Str}:∀ {names:List (Str × NameKind)},
   (names.map fun (n,k)=>if (k == NameKind.free && env.scope.kind == .function && env.kindOf n == some .cell) then (n,NameKind.cell) else (n,k)).lookup y
     = (names.lookup y).map fun k=>if (k == NameKind.free && env.scope.kind == .function && env.kindOf y == some .cell) then NameKind.cell else k
 | []=>rfl
 | (n,k)::r=>by
   have ih:=@xL env y r
   by_cases hx:y=n
   · subst hx
     simp only [List.map_cons]
     split <;> rename_i hc
     · rw [List.lookup_cons,List.lookup_cons];simp only [beq_self_eq_true,Option.map_some];rw [if_pos hc]
     · rw [List.lookup_cons,List.lookup_cons];simp only [beq_self_eq_true,Option.map_some];rw [if_neg hc]
   · have hb:(y == n)=false:=beq_eq_false_iff_ne.mpr hx
     simp only [List.map_cons]
     split <;> simp only [List.lookup_cons,hb] <;> exact ih
section
variable {X:Cx}{pins:List (Addr × Obj)}{σ:St}{H:Hp}{s:Shared}{a:Addr}{o:HO}
theorem Inv.track (I:Inv X pins σ H s) (f:iz X pins H a) (hs:X.s₀.heap.objs.size≤a) (new:bC X.prog X.w (upd H a o) s.heap a o):Inv X pins σ (upd H a o) s:=by
 obtain⟨f0,f1,f2,f3,f4,f5⟩:=f
 have old:∀ b ob,X.s₀.heap.get? b=some ob→b≠a:=fun b ob e z=>by subst z;exact absurd (Nat.lt_of_lt_of_le (Heap.lt_size e) hs) (Nat.lt_irrefl _)
 refine⟨I.ok,I.os,I.bare,⟨I.base.keep,I.base.slot,fun b ob e n hx=>?_,I.base.there,fun b xs e=>?_,fun b ob u e=>?_,fun b ps e=>?_⟩,I.loc,I.cell,?_,fun x c e=>?_,fun p hp=>?_,fun b u e=>?_,I.len⟩
 · rw [zG (old b ob e)];exact I.base.free b ob e n hx
 · have q:=I.base.tups b xs e;rw [zG (zC q f0)];exact q
 · have q:=I.base.jW b ob u e;rw [zG (zC q f0)];exact q
 · obtain⟨more,q⟩:=I.base.j7 b ps e;exact⟨more,by rw [zG (zC q f0)];exact q⟩
 · rw [zG (Ne.symm f1)];exact I.free
 · rw [zG (f4 x c e)];exact I.ie x c e
 · obtain⟨e,n,ne,nf,d⟩:=I.pin p hp
   exact⟨e,by rw [zG (f5 p hp)];exact n,ne,nf,d⟩
 · by_cases hb:b=a
   · subst hb;rw [zB] at e;cases e;exact new
   · rw [zG hb] at e
     exact (I.hok b u e).stay (fun c v _ q=>q) (fun c q=>by rw [zG (zC q f0)];exact q) fun c xs q=>by rw [zG (zC q f0)];exact q
end
def dI (X:Cx) (scope:Scope) (C:Addr) (x:Str) (M:List Str) (s₂:Shared) (H₂:Hp) (fp:List Addr):Cx :=
 { X with N:=x::M,s₀:=s₂,H₀:=H₂,env:=compEnvC scope (fj X.env scope.names []) C X.env,outer:=X.stack,ex:=fp,fn:=fun _=>false,pn:=[],xe:=fun _ _=>False }
structure cu (X:Cx) (scope:Scope) (x:Str) (M:List Str):Prop where
 kind:scope.kind=.function
 cell:∀ y∈scope.names,y.2≠.cell
 names:∀ y∈scope.names,y.2=.local→scope.names.lookup y.1=some .local
 loc:scope.names.lookup x=some .local
 nd:(x::M).Nodup
 free:∀ y,(y,NameKind.free)∈scope.names→X.env.scope.names.lookup y=some .cell∨X.env.scope.names.lookup y=some .free
 len:M.length=X.N.length
 sub:∀ (j:Nat) y,M[j]? = some y→scope.names.lookup y=some .local∨scope.names.lookup y=some .free→X.N[j]? = some y∧scope.names.lookup y=some .free
def Gk (names outer:List (Str × NameKind)) (N M:List Str) (x:Str):Bool :=
 names.all (fun y=>decide (y.2≠.cell)) && names.all (fun y=>decide (y.2=.local→names.lookup y.1=some .local)) && decide (names.lookup x=some .local) && decide (x::M).Nodup &&
 names.all (fun y=>decide (y.2=.free→(outer.lookup y.1=some .cell∨outer.lookup y.1=some .free))) && decide (M.length=N.length) &&
 (M.zip N).all (fun p=>decide (names.lookup p.1=some .local∨names.lookup p.1=some .free→p.1=p.2∧names.lookup p.1=some .free))
theorem jf {X:Cx}{scope:Scope}{x:Str}{M:List Str} (hk:scope.kind=.function) (h:Gk scope.names X.env.scope.names X.N M x=true):cu X scope x M:=by
 unfold Gk at h
 simp only [Bool.and_eq_true,List.all_eq_true,decide_eq_true_eq] at h
 obtain⟨⟨⟨⟨⟨⟨h1,h2⟩,h3⟩,h4⟩,h5⟩,h6⟩,h7⟩:=h
 refine⟨hk,h1,h2,h3,h4,fun y hy=>h5 _ hy rfl,h6,fun j y e q=>?_⟩
 have hj:j<M.length:=(List.getElem?_eq_some_iff.mp e).1
 have hj2:j<X.N.length:=by omega
 have z:(M.zip X.N)[j]? = some (y,X.N[j]):=by rw [List.getElem?_zip_eq_some];exact⟨e,by simp [hj2]⟩
 have r:=h7 _ (List.mem_of_getElem? z) q
 exact⟨by rw [List.getElem?_eq_getElem hj2];exact congrArg some r.1.symm,r.2⟩
section
variable {X:Cx}{scope:Scope}{x:Str}{M:List Str}{pins:List (Addr × Obj)}{σ:St}{H₂:Hp}{s₂:Shared}
theorem cu.pI {y:Str}{c:Addr} (h:(fj X.env scope.names []).lookup y=some c):X.env.cells.lookup y=some c:=by
 rcases Bm (PySem.mem_of_lookup h) with q | q
 · cases q
 · exact q
theorem cu.DP (K:cu X scope x M) (ok:X.Ok) {y:Str} (h:(y,NameKind.free)∈scope.names):∃ c,(fj X.env scope.names []).lookup y=some c∧X.env.cells.lookup y=some c:=by
 have e1:∃ c,X.env.cells.lookup y=some c:=ok.has y (K.free y h)
 obtain⟨c,hc⟩:=Bo (env:=X.env) (ns:=scope.names) (cs:=[]) (y:=y) (.inr ⟨h,e1⟩)
 have q:∃ c,(fj X.env scope.names []).lookup y=some c:=by
   cases e:(fj X.env scope.names []).lookup y with
   | some c=>exact⟨c,rfl⟩
   | none =>
     rw [List.lookup_eq_none_iff] at e
     have:=e _ hc
     simp at this
 obtain⟨c',hc'⟩:=q
 exact⟨c',hc',cu.pI hc'⟩
theorem cu.closure (K:cu X scope x M) (ok:X.Ok):closureFor scope X.env=pure (fj X.env scope.names []) :=
 DN fun y hy=>by obtain⟨c,_,q⟩:=K.DP ok hy;exact⟨c,q⟩
theorem u0 (K:cu X scope x M) (I:Inv X pins σ H₂ s₂) {fp:List Addr} (hf:∀ b∈fp,iz X pins H₂ b) (hfl:∀ b∈fp,b<s₂.heap.objs.size) {C:Addr} (hC:s₂.heap.objs.size≤C) {h₁:Heap}{t:Nat}{m:Str→Option Value} (hn:h₁.Ns C m)
   (hk:∀ b o,s₂.heap.get? b=some o→h₁.get? b=some o):Inv (dI X scope C x M s₂ H₂ fp) [] (none::σ) H₂ { s₂ with heap:=h₁,toks:=t }:=by
 have lt:∀ {b:Addr}{o:Obj},s₂.heap.get? b=some o→b≠C:=fun {b o} e z=>by subst z;exact absurd (Nat.lt_of_lt_of_le (Heap.lt_size e) hC) (Nat.lt_irrefl _)
 have cC:∀ y c,(fj X.env scope.names []).lookup y=some c→c≠C:=fun y c e=>by
   obtain⟨v,o,ho,_⟩:=I.cell y c (cu.pI e)
   exact lt ho
 have sub:∀ b∈frs X.stack,b=X.env.locals∨b∈X.fs:=fun b hb=>List.mem_cons.mp (I.rD b hb)
 have ok:(dI X scope C x M s₂ H₂ fp).Ok:=by
   refine⟨I.ok.mod,K.kind,I.ok.glob,I.ok.blt,hC,fun y z c h1 h2=>?_,fun y hy=>?_,fun y c z=>?_,I.ok.hd,I.ok.frames,.inl rfl,fun b hb=>⟨?_,fun y c e=>?_⟩,I.bs,Nat.le_trans I.ok.G8 I.sz,fun b o e hb=>?_,fun b hb hb2=>?_,I.stack,I.yh⟩
   · exact I.ok.inj y z c (cu.pI h1) (cu.pI h2)
   · have hy':(relabel scope X.env).names.lookup y=some .cell∨(relabel scope X.env).names.lookup y=some .free:=hy
     have q:(y,NameKind.free)∈scope.names:=by
       unfold relabel at hy'
       rw [xL] at hy'
       cases e:scope.names.lookup y with
       | none=>rw [e] at hy';simp at hy'
       | some k =>
         have hm:=PySem.mem_of_lookup e
         cases k with
         | free=>exact hm
         | cell=>exact absurd rfl (K.cell _ hm)
         | _=>rw [e] at hy';simp at hy'
     obtain⟨c,q,_⟩:=K.DP I.ok q
     exact⟨c,q⟩
   · exact Bool.noConfusion (show false=true from z)
   · intro z
     have z':b=C:=z
     subst z'
     exact absurd (Nat.lt_of_lt_of_le (hfl b hb) hC) (Nat.lt_irrefl _)
   · exact (hf b hb).2.2.2.2.1 y c (cu.pI e)
   · have q:=(hf b hb).2.2.2.1
     rcases q with q | q
     · exact I.ok.Iv b o e q
     · exact absurd (Nat.lt_of_lt_of_le (Heap.lt_size (I.ok.bs b o e).1) q) (Nat.lt_irrefl _)
   · rcases sub b hb2 with z | z
     · exact (hf b hb).2.1 z
     · exact (hf b hb).2.2.1 z
 refine⟨ok,rfl,I.bare,Un.kept hk,⟨m,hn,fun i y v e1 e2 e3=>?_⟩,fun y c e=>?_,?_,fun y c e=>?_,fun p hp=>absurd (show p∈([]:List (Addr × Obj)) from hp) (by simp),I.hok.kept hk,?_⟩
 · cases i with
   | zero =>
     have e2':some (none:Option V)=some (some v):=e2
     cases e2'
   | succ j =>
     have e1':M[j]? = some y:=e1
     have e2':σ[j]? = some (some v):=e2
     have e3':(relabel scope X.env).names.lookup y=some .local∨(relabel scope X.env).names.lookup y=some .cell∨(relabel scope X.env).names.lookup y=some .free:=e3
     have q:scope.names.lookup y=some .local∨scope.names.lookup y=some .free:=by
       unfold relabel at e3'
       rw [xL] at e3'
       cases e:scope.names.lookup y with
       | none=>rw [e] at e3';simp at e3'
       | some k =>
         have hm:=PySem.mem_of_lookup e
         cases k with
         | free=>exact .inr rfl
         | «local»=>exact .inl rfl
         | cell=>exact absurd rfl (K.cell _ hm)
         | _=>rw [e] at e3';simp at e3'
     obtain⟨nj,fr⟩:=K.sub j y e1' q
     have hm:=PySem.mem_of_lookup fr
     have kd:=K.free y hm
     have vs:Vis X.env.scope y:=.inr kd
     obtain⟨mo,_,lo⟩:=I.loc
     obtain⟨u,r,l⟩:=lo j y v nj e2' vs
     refine⟨u,r,.inr ⟨?_,?_⟩⟩
     · show (relabel scope X.env).names.lookup y=some .cell∨(relabel scope X.env).names.lookup y=some .free
       unfold relabel
       rw [xL,fr]
       simp only [Option.map_some]
       split
       · exact .inl rfl
       · exact .inr rfl
     · obtain⟨c,q1,q2⟩:=K.DP I.ok hm
       rcases l with ⟨k,_⟩ | ⟨_,c',q3,z⟩
       · have k':X.env.scope.names.lookup y=some .local:=k
         rcases kd with kd | kd <;> · rw [k'] at kd;cases kd
       · rw [q2] at q3
         cases q3
         obtain⟨oc,ho,hd⟩:=z
         exact⟨c,q1,oc,hk _ _ ho,hd⟩
 · obtain⟨v,oc,ho,hd⟩:=I.cell y c (cu.pI e)
   exact⟨v,oc,hk _ _ ho,hd⟩
 · exact I.hok.fresh hC
 · exact I.ie y c (cu.pI e)
 · show (none::σ).length=(x::M).length
   rw [List.length_cons,List.length_cons,K.len,I.len]
end
end L2
namespace L2
open PySem PySem.Spec PyProof.Rows PySem.Calls
def V1 (wi:TI) (te:TE):TE:=fun σ H Q=>wi σ H fun J H1=>∃ (n:Nat) (W:Nat→List V→Hp→Prop),n≤sizeLine∧W 0 [] H1∧∀ i ys H,i≤n→ys.length=i→W i ys H →
 (J.stop i H∧∀ p,H p=none→Q (.ref p) (upd H p (.lst ys)))∨(J.go i H∧i<n∧∀ x H',J.Be i H x H'→te (some x::σ) H' fun v Ay=>W (i+1) (ys++[v]) Ay)
section
variable {X:Cx}{scope:Scope}{x:Str}{M:List Str}{pins:List (Addr × Obj)}{σ:St}{H₂:Hp}{s₂:Shared}{elt iter:Expr}{px pos:Pos}{te:TE}{wi:TI}
theorem DQ (K:cu X scope x M) (hc:X.calm=true) (I:Inv X pins σ H₂ s₂) (he:∀ (C:Addr) (s₂:Shared) (H₂:Hp) (fp:List Addr),PE (dI X scope C x M s₂ H₂ fp) elt te)
   {it:Addr}{fp:List Addr}{tn:Nat→Heap→Prop}{J:It} (T:Turn X.prog X.w X.K (.Name x px) J fp it tn) (st:tn 0 s₂.heap) (hf:∀ b∈fp,iz X pins H₂ b) {n:Nat} (hsz:n≤sizeLine) {W:Nat→List V→Hp→Prop}{F:List V→Hp→Prop}
   (w0:W 0 [] H₂) (turn:∀ i ys H,i≤n→ys.length=i→W i ys H→(J.stop i H∧F ys H)∨(J.go i H∧i<n∧∀ x H',J.Be i H x H'→te (some x::σ) H' fun v Ay=>W (i+1) (ys++[v]) Ay))
   {E:Value→Shared→Prop}{RR:Value→Addr→Result→Shared→Prop}
   (hRR:∀ (D C:Addr) (s':Shared) (H':Hp) (ys:List V) (m:Str→Option Value),Inv X pins σ (upd H' D (.lst ys)) s'→H' D=none→iz X pins (upd H' D (.lst ys)) C→s'.heap.Ns C m→F ys H'→RR (.ref D) C (.ok .next) s') :
   wpAny (model X.prog X.w) X.A (newList []) (fun acc s₃=>wpAny (model X.prog X.w) X.A (newFunctionEnv scope X.env.globals (fj X.env scope.names []) [] X.env.qual none .none (some X.env)) (fun cenv s₄ =>
     codeAny (model X.prog X.w) X.A (.compStart (.ListComp elt [⟨.Name x px,iter,[],0⟩] scope pos) 0 (.ref it) acc { cenv with scope:=relabel scope X.env }) (RR acc cenv.locals) s₄) E s₃) E s₂:=by
 refine wpAny_newObj_type (wpAny_newFunctionEnv K.cell (by intro y hy;simp at hy) (fun h₁ hns₁ hsb₁=>?_) K.kind)
 dsimp only at hns₁ hsb₁ ⊢
 generalize hH2:s₂.heap.push { cls:=.type "list",dict:=none,data:=.seq ([]:List Value).toArray } = H2 at hns₁ hsb₁ ⊢
 have hC:H2.objs.size=s₂.heap.objs.size+1:=by rw [← hH2,Heap.size_push]
 have hDC:s₂.heap.objs.size≠H2.objs.size:=by rw [hC];exact Nat.ne_of_lt (Nat.lt_succ_self _)
 have below:∀ b,b<s₂.heap.objs.size→b≠H2.objs.size∧b≠s₂.heap.objs.size:=fun b hb=>⟨by rw [hC];exact Nat.ne_of_lt (Nat.lt_succ_of_lt hb),Nat.ne_of_lt hb⟩
 have hfl:∀ b∈fp,b<s₂.heap.objs.size:=fun b hb=>by obtain⟨o,e,_⟩:=T.obj _ _ st b hb;exact Heap.lt_size e
 have old:∀ b o,s₂.heap.get? b=some o→h₁.get? b=some o:=fun b o e=>hsb₁.extBut b o (below b (Heap.lt_size e)).1 (Heap.get?_push_of_some _ (hH2 ▸ Heap.get?_push_of_some _ e))
 have hacc:h₁.get? s₂.heap.objs.size=some { cls:=.type "list",data:=.seq ([]:List Value).toArray 0 }:=hsb₁.extBut _ _ hDC (Heap.get?_push_of_some _ (hH2 ▸ Heap.get?_push_size _ rfl))
 generalize hCC:H2.objs.size=C at *
 generalize pJ:s₂.heap.objs.size=D at *
 have hCle:s₂.heap.objs.size≤C:=by rw [pJ,hC];exact Nat.le_succ _
 have st₁:tn 0 h₁:=T.keep _ _ _ st fun b _ o e=>old b o e
 have I₁:=u0 (t:=s₂.toks+([]:List (Str × Value)).length) K I hf (fun b hb=>by rw [pJ];exact hfl b hb) hCle hns₁ old
 generalize hX':dI X scope C x M s₂ H₂ fp=X' at I₁
 have eX:X'.prog=X.prog∧X'.w=X.w∧X'.K=X.K∧X'.calm=true∧X'.A=X.A∧X'.ex=fp∧X'.env=compEnvC scope (fj X.env scope.names []) C X.env∧X'.s₀=s₂∧X'.pn=[]:=by
   subst hX';exact⟨rfl,rfl,rfl,hc,rfl,rfl,rfl,rfl,rfl⟩
 obtain⟨eP,ew,eK,ec,eA,V2,ud,PJ,Jw⟩:=eX
 have eL:X'.env.locals=C:=by rw [ud];rfl
 have cells':∀ y c,X'.env.cells.lookup y=some c→X.env.cells.lookup y=some c:=fun y c e=>by rw [ud] at e;exact cu.pI e
 have V3:X'.fs=frs X.stack:=by subst hX';rfl
 have qC:∀ b∈X'.fs,b=X.env.locals∨b∈X.fs:=fun b hb=>List.mem_cons.mp (I.rD b (by rw [← V3];exact hb))
 have vd:∀ {pn:List (Addr × Obj)}{H':Hp},(∀ p∈pn,p.1=D)→(∀ b∈fp,H' b=none)→∀ b∈fp,iz X' pn H' b:=fun {pn H'} hp hn b hb=>by
   refine⟨hn b hb,?_,fun z=>?_,.inl (by rw [V2];exact hb),fun y c e=>(hf b hb).2.2.2.2.1 y c (cells' y c e),fun p hq=>?_⟩
   · rw [eL];exact (below b (hfl b hb)).1
   · rcases qC b z with q | q
     · exact (hf b hb).2.1 q
     · exact (hf b hb).2.2.1 q
   · rw [Jw,List.nil_append] at hq
     rw [hp p hq];exact Ne.symm (below b (hfl b hb)).2
 have V4:D∉fp:=fun z=>Nat.lt_irrefl _ (hfl D z)
 have Bp:X.env.locals<D:=by have:=I.lt;rw [pJ] at this;exact this
 have Jx:∀ b∈X.fs,b<D:=fun b hb=>Nat.lt_of_not_le fun z=>I.Mv (a:=b) (by rw [pJ];exact z) hb
 have Bq:∀ {b:Addr}{pn:List (Addr × Obj)}{H':Hp},D≤b→b≠C→H' b=none→(∀ p∈pn,p.1≠b)→iz X' pn H' b:=fun {b pn H'} hb hbC hn hp=>by
   refine⟨hn,by rw [eL];exact hbC,fun z=>?_,.inr (by rw [PJ,pJ];exact hb),fun y c e=>?_,fun p hq=>?_⟩
   · rcases qC b z with q | q
     · rw [q] at hb;exact absurd (Nat.lt_of_lt_of_le Bp hb) (Nat.lt_irrefl _)
     · exact absurd (Nat.lt_of_lt_of_le (Jx b q) hb) (Nat.lt_irrefl _)
   · obtain⟨v,o,ho,_⟩:=I.cell y c (cells' y c e)
     have:=Heap.lt_size ho
     rw [pJ] at this
     exact Nat.ne_of_lt (Nat.lt_of_lt_of_le this hb)
   · rw [Jw,List.nil_append] at hq
     exact hp p hq
 have outer:∀ {σ':St}{H':Hp}{s':Shared}{pn:List (Addr × Obj)},Inv X' pn σ' H' s'→Inv X pins σ H' s':=fun {σ' H' s' pn} J'=>by
   subst hX'
   refine I.call' (ch:=fp) J'.os J'.base J'.hok J'.bare fun b hb=>?_
   obtain⟨f0,f1,f2,f3,f4,f5⟩:=hf b hb
   exact⟨f3,f1,f4,f5⟩
 have tO:∀ {b:Addr}{H':Hp},D≤b→H' b=none→iz X pins H' b:=fun {b H'} hb hn=>by
   have q:=I.yj (H':=H') (b:=b) (by rw [pJ];exact hb) hn
   exact q
 have loop:∀ s₃:Shared,s₃={ s₂ with heap:=h₁,toks:=s₂.toks+([]:List (Str × Value)).length } →
     codeAny (model X.prog X.w) X.A (.compLoop (.ListComp elt [⟨.Name x px,iter,[],0⟩] scope pos) 0 (.ref it) (.ref D) (compEnvC scope (fj X.env scope.names []) C X.env)) (RR (.ref D) C) s₃:=by
   rintro s₃ rfl
   refine Bl (fun k s'=>∃ (i:Nat) (ys:List V) (its:List Value) (σ0:Option V) (H':Hp),i≤n∧k=n+1 - i∧ys.length=i∧Inv X' [] (σ0::σ) H' s'∧tn i s'.heap∧(∀ b∈fp,H' b=none)∧H' D=none∧Vals ys its ∧
     (∃ c,s'.heap.get? D=some { cls:=.type "list",data:=.seq its.toArray c })∧W i ys H') ?_ (n+1) ⟨0,[],[],none,H₂,Nat.zero_le _,rfl,rfl,I₁,st₁,fun b hb=>(hf b hb).1,by rw [← pJ];exact I.hok.fresh (Nat.le_refl _),.nil,⟨0,hacc⟩,w0⟩
   rintro k s' ⟨i,ys,its,σ0,H',hi,rfl,hyl,I',st',fr',hD',rv,⟨c,hobj⟩,w'⟩
   have hx0:X'.N[0]? = some x:=by subst hX';rfl
   have hxl:X'.env.scope.names.lookup x=some .local:=by rw [ud];exact lookup_relabel_local K.loc
   have hNd:X'.N.Nodup:=by subst hX';exact K.nd
   rcases turn i ys H' hi hyl w' with ⟨stop,fin⟩ | ⟨go,hlt,step⟩
   · have vf:Inv X' [(D,{ cls:=.type "list",data:=.seq its.toArray c })] (σ0::σ) H' s':=I'.dY fun p hp=>by
       obtain rfl:p=(D,{ cls:=.type "list",data:=.seq its.toArray c }):=by simpa using hp
       refine⟨hobj,hD',?_,?_,fun v z=>nomatch z⟩
       · rw [eL];exact hDC
       · intro z
         rcases qC D z with q | q
         · rw [q] at Bp;exact Nat.lt_irrefl _ Bp
         · exact Nat.lt_irrefl _ (Jx D q)
     have q:=T.done X' eP ew eK ec i _ s' (σ0::σ) H' (notedBy (model X.prog X.w) X.A (compEnvC scope (fj X.env scope.names []) C X.env) fun e s'=>RR (.ref D) C (.error e) s') vf (vd (fun p hp=>by obtain rfl:p=(D,{ cls:=.type "list",data:=.seq its.toArray c }):=(by simpa using hp);rfl) fr') st' stop
     rw [eA] at q
     refine wpAny_mono q (fun r s4 ⟨hr,I4⟩=>?_) fun _ _ z=>z
     subst hr
     obtain⟨e4,n4,_⟩:=I4.pin (D,{ cls:=.type "list",data:=.seq its.toArray c }) (List.mem_append_right _ (by simp))
     have O4:=outer I4
     obtain⟨m4,PK,_⟩:=I4.loc
     rw [eL] at PK
     refine hRR D C s4 H' ys m4 (O4.track (tO (Nat.le_refl _) n4) (Nat.le_trans I.sz (by rw [pJ];exact Nat.le_refl _)) ⟨by rw [hyl];exact Nat.le_trans hi hsz,its,c,rv,e4⟩) n4 (tO (by rw [hC];exact Nat.le_succ _) ?_) PK fin
     rw [zG (Ne.symm hDC)]
     have:=I4.free
     rw [eL] at this
     exact this
   · have vf:Inv X' [(D,{ cls:=.type "list",data:=.seq its.toArray c })] (σ0::σ) H' s':=I'.dY fun p hp=>by
       obtain rfl:p=(D,{ cls:=.type "list",data:=.seq its.toArray c }):=by simpa using hp
       refine⟨hobj,hD',?_,?_,fun v z=>nomatch z⟩
       · rw [eL];exact hDC
       · intro z
         rcases qC D z with q | q
         · rw [q] at Bp;exact Nat.lt_irrefl _ Bp
         · exact Nat.lt_irrefl _ (Jx D q)
     have pd:∀ p∈[(D,({ cls:=.type "list",data:=.seq its.toArray c }:Obj))],p.1=D:=fun p hp=>by obtain rfl:p=(D,{ cls:=.type "list",data:=.seq its.toArray c }):=(by simpa using hp);rfl
     have q:=T.item X' eP ew eK ec i _ s' (σ0::σ) H' (notedBy (model X.prog X.w) X.A (compEnvC scope (fj X.env scope.names []) C X.env) fun e s'=>RR (.ref D) C (.error e) s') vf (vd pd fr') st' go
     rw [eA] at q
     refine wpAny_mono q (fun r s4 ⟨u,hr,h4⟩=>?_) fun _ _ z=>z
     subst hr
     refine wpAny_mono h4 (fun _ s5 ⟨xv,H5,I5,r5,y5,yl,QM⟩=>?_) fun _ _ z=>z
     have QQ:=I5.pinned (vd pd QM) (T.obj _ _ yl)
     refine wpAny_assign_Name ?_
     rw [← ud]
     refine uQ QQ hNd hx0 (.inl hxl) r5 (fun s6 I6=>?_) (.inr hxl)
     have te6:=step xv H5 y5
     have q6:=(he C s₂ H₂ fp) (([(D,({ cls:=.type "list",data:=.seq its.toArray c }:Obj))])++kZ fp s5.heap) s6 (some xv::σ) H5 (fun v Ay=>W (i+1) (ys++[v]) Ay) (by rw [hX'];exact I6) te6
     rw [hX',eP,ew,eA] at q6
     refine wpAny_mono q6 (fun u7 s7 ⟨v7,H7,I7,r7,w7⟩=>?_) (fun _ _ z=>by subst hX';exact (show False from z).elim)
     obtain⟨e7,n7,_⟩:=I7.pin (D,{ cls:=.type "list",data:=.seq its.toArray c }) (List.mem_append_right _ (List.mem_append_left _ (by simp)))
     refine append_at (hsz:=by rw [List.size_toArray,← rv.length,hyl];exact Nat.le_trans hi hsz) e7 fun h8 PL g8=>?_
     have I8:Inv X' [] (some xv::σ) H7 { s7 with heap:=h8,toks:=s7.toks }:=(I7.dY (uP:=[]) fun p hp=>absurd hp (by simp)).turned (t':=s7.toks) (it:=D) (fun b o hb e=>(PL.2 b hb).trans e) n7 (by rw [eL];exact hDC) (.inr (by rw [PJ,pJ];exact Nat.le_refl _))
       (Bq (H':=H7) (pn:=[]) (Nat.le_refl _) hDC n7 (fun p hp=>absurd hp (by simp))).2.2.2.2.1 (fun p hp=>by rw [Jw] at hp;exact absurd hp (by simp))
     refine⟨n+1 - (i+1),by omega,i+1,ys++[v7],its++[u7],some xv,H7,hlt,rfl,by rw [List.length_append,List.length_singleton,hyl],I8,?_,fun b hb=>?_,n7,rv.append (.cons r7 .nil),⟨c+1,?_⟩,w7⟩
     · refine T.keep _ _ _ yl fun b hb o e=>?_
       have e':=(I7.pin (b,o) (List.mem_append_right _ (List.mem_append_right _ (yK hb e)))).1
       exact (PL.2 b (fun z=>V4 (z ▸ hb))).trans e'
     · obtain⟨o,e,d⟩:=T.obj _ _ yl b hb
       exact (I7.pin (b,o) (List.mem_append_right _ (List.mem_append_right _ (yK hb e)))).2.1
     · rw [g8,List.push_toArray]
 exact codeAny_compStart_list (loop _ rfl) (T.self X.A 0 _ _ _ st₁ (loop _ rfl))
theorem Nb (K:cu X scope x M) (hc:X.calm=true) (hi:PI X (.Name x px) iter wi) (he:∀ (C:Addr) (s₂:Shared) (H₂:Hp) (fp:List Addr),PE (dI X scope C x M s₂ H₂ fp) elt te)
   (hs:∀ x,foldedSetIterable iter X.env x=pure x:=by intro _;rfl):PE X (.ListComp elt [⟨.Name x px,iter,[],0⟩] scope pos) (V1 wi te):=by
 intro pins s σ H Q I h
 rw [eval_ListComp]
 refine wpAny_comprehension_free (use:=none) rfl hs (K.closure I.ok) K.kind K.names (dh (hi pins s σ H _ I h) fun v s1 h1=>dh h1 fun itv s2 h2=>?_)
 obtain⟨it,fp,tn,J,H2,e,I2,T,st2,f2,n,W,hsz,w0,turn⟩:=h2
 subst e
 refine DQ (RR:=fun acc C=>compPost (model X.prog X.w) X.A X.xe none (EP X pins σ Q) acc C) K hc I2 he T st2 f2 hsz (F:=fun ys H=>∀ p,H p=none→Q (.ref p) (upd H p (.lst ys))) w0 turn ?_
 intro D C s' H' ys m I' n' fC ns fin
 refine⟨m,ns,fun h' sb=>?_⟩
 obtain⟨f0,f1,f2,f3,f4,f5⟩:=fC
 exact⟨.ref D,_,I'.turned (t':=s'.toks) (it:=C) (fun b o hb e=>(sb.2 b hb).trans e) f0 f1 f3 f4 f5,rfl,fin D n'⟩
end
end L2
namespace L2
open PySem PySem.Spec PyProof.Rows PySem.Calls
def S (l:List Nat):Str:=⟨l.toArray⟩
abbrev cd (x:Str):List Nat:=x.cps.toList
theorem Nf (l:List Nat):cd (S l)=l:=rfl
theorem Jy (x:Str):S (cd x)=x:=by cases x;rfl
theorem Q7 {x y:Str} (h:cd x=cd y):x=y:=by rw [← Jy x,← Jy y,h]
theorem Gm (l:List Nat):(S l).length=l.length:=by show l.toArray.size=_;simp
theorem jl (x:Str):x.length=(cd x).length:=by show x.cps.size=_;simp
theorem rH (x y:Str):cd (x++y)=cd x++cd y:=by
 show (x.cps++y.cps).toList=_
 simp
def Ur (x:Str):It:=⟨fun i _=>i<x.length,fun i H v H'=>H'=H∧∃ c,(cd x)[i]? = some c∧v=.str (S [c]),fun i _=>i=x.length⟩
theorem xW {prog:Program}{w:World}{A:Around} (hh:A.handled=none) (I:Addr) (x:Str) (t:Tok):Walks prog w A I [I] [I] x.cps.size (SignAt x) (fun i h=>h.IsStrIter I (strIterType x) x t i):=by
 unfold strIterType
 split
 · exact Walks.strAscii hh I x t
 · exact Walks.strWide hh I x t
theorem Jz {P:Program}{w:World}{K:PySem.W.Frag}{tg:Expr} (it:Addr) (x:Str) (t:Tok):Turn P w K tg (Ur x) [it] it (fun i h=>h.IsStrIter it (strIterType x) x t i) where
 mem:=by simp
 obj:=fun i h st b hb=>by
   have e:b=it:=by simpa using hb
   subst e
   obtain⟨o,e,c,d⟩:=st
   exact⟨o,e,fun v z=>by rw [d] at z;cases z⟩
 keep:=fun i h h' st k=>by
   obtain⟨o,e,r⟩:=st
   exact⟨o,k it (by simp) o e,r⟩
 item:=by
   intro X hP hw hK hc i pins s σ H E I hf st hg
   subst hP hw hK
   have W:=xW (prog:=X.prog) (w:=X.w) (A:=X.A) (I.ok.hd hc) it x t
   obtain⟨f0,f1,f2,f3,f4,f5⟩:=hf it (by simp)
   refine W.item i s _ E hg st fun v h' tk hv st' k=>?_
   have I1:Inv X pins σ H { s with heap:=h',toks:=tk }:=I.turned (t':=tk) (fun b o hb e=>k b o (by simpa using hb) e) f0 f1 f3 f4 f5
   obtain⟨c,u,hcx,rfl⟩:=hv
   obtain⟨o,e,c1,d⟩:=id st'
   refine⟨_,rfl,Ge (s:={ s with heap:=h',toks:=tk }) e c1 d ?_ ⟨.str (S [c]),H,I1,⟨_,rfl⟩,⟨rfl,c,by rw [← hcx];simp [cd],rfl⟩,st',fun b hb=>(hf b hb).1⟩⟩
   unfold strIterType;split <;> decide
 done:=by
   intro X hP hw hK hc i pins s σ H E I hf st hg
   subst hP hw hK
   have W:=xW (prog:=X.prog) (w:=X.w) (A:=X.A) (I.ok.hd hc) it x t
   obtain⟨f0,f1,f2,f3,f4,f5⟩:=hf it (by simp)
   have e:i=x.cps.size:=hg
   subst e
   exact W.done s _ E st fun h' tk k=>⟨rfl,I.turned (t':=tk) (fun b o hb e=>k b o (by simpa using hb) e) f0 f1 f3 f4 f5⟩
 self:=fun A i s Q E st h=>by
   obtain⟨o,e,c,d⟩:=id st
   unfold strIterType at st
   split at st
   · exact wpAny_pyIter_striter_ascii st h
   · exact wpAny_pyIter_striter_wide st h
section
variable {X:Cx}{tg:Expr}
def aeT (tl:TE):TI:=fun σ H R=>tl σ H fun v H1=>∃ x,v=.str x∧R (Ur x) H1
theorem Q8 {l:Expr}{tl:TE} (hl:PE X l tl):PI X tg l (aeT tl):=by
 intro pins s σ H R I h
 refine dh (hl pins s σ H _ I h) fun v s1 zq=>?_
 obtain⟨x,H1,I1,r1,q1⟩:=zq
 obtain⟨x,rfl,q⟩:=q1
 obtain⟨t,rfl⟩:=r1
 refine wpAny_pyIter_strU ?_
 refine⟨s1.heap.objs.size,[s1.heap.objs.size],_,_,H1,rfl,I1.kept (t':=s1.toks) fun b o e=>Heap.get?_push_of_some _ e,Jz _ x t,⟨_,Heap.get?_push_size _ rfl,rfl,rfl⟩,fun b hb=>?_,q⟩
 have e:b=s1.heap.objs.size:=by simpa using hb
 subst e
 exact I1.yj (Nat.le_refl _) (I1.hok.fresh (Nat.le_refl _))
end
theorem JB {x:Str}{te:TE}{σ:St}{H:Hp}{Q:VK} (hz:x.length≤sizeLine) (W:Nat→List V→Hp→Prop) (h0:W 0 [] H)
   (hs:∀ i c ys H,(cd x)[i]? = some c→ys.length=i→W i ys H→te (some (.str (S [c]))::σ) H fun v H'=>W (i+1) (ys++[v]) H')
   (hd:∀ ys H,ys.length=x.length→W x.length ys H→∀ p,H p=none→Q (.ref p) (upd H p (.lst ys))) :
   ∃ (n:Nat) (W:Nat→List V→Hp→Prop),n≤sizeLine∧W 0 [] H∧∀ i ys H,i≤n→ys.length=i→W i ys H →
     ((Ur x).stop i H∧∀ p,H p=none→Q (.ref p) (upd H p (.lst ys)))∨((Ur x).go i H∧i<n∧∀ v H',(Ur x).Be i H v H'→te (some v::σ) H' fun v Ay=>W (i+1) (ys++[v]) Ay):=by
 refine⟨x.length,W,hz,h0,fun i ys H hi hl hw=>?_⟩
 by_cases hlt:i<x.length
 · refine .inr ⟨hlt,hlt,fun v H' y=>?_⟩
   obtain⟨e,c,hc,rfl⟩:=y
   subst e
   exact hs i c ys _ hc hl hw
 · have e:i=x.length:=by omega
   subst e
   exact .inl ⟨rfl,hd ys H hl hw⟩
theorem Ho {K:PySem.W.Frag}{a:Addr}{xs:List V}{te:TE}{σ:St}{H:Hp}{Q:VK} (hz:xs.length≤sizeLine) (W:Nat→List V→Hp→Prop) (h0:W 0 [] H) (hq:∀ i ys H,W i ys H→bQ K H a xs)
   (hs:∀ i x ys H,xs[i]? = some x→ys.length=i→W i ys H→te (some x::σ) H fun v H'=>W (i+1) (ys++[v]) H')
   (hd:∀ ys H,ys.length=xs.length→W xs.length ys H→∀ p,H p=none→Q (.ref p) (upd H p (.lst ys))) :
   ∃ (m:Nat) (W:Nat→List V→Hp→Prop),m≤sizeLine∧W 0 [] H∧∀ i ys H,i≤m→ys.length=i→W i ys H →
     ((Jb K a).stop i H∧∀ p,H p=none→Q (.ref p) (upd H p (.lst ys)))∨((Jb K a).go i H∧i<m∧∀ v H',(Jb K a).Be i H v H'→te (some v::σ) H' fun v Ay=>W (i+1) (ys++[v]) Ay):=by
 refine⟨xs.length,W,hz,h0,fun i ys H hi hl hw=>?_⟩
 have q:=hq i ys H hw
 by_cases hlt:i<xs.length
 · refine .inr ⟨⟨xs,xs[i],q,by simp [hlt]⟩,hlt,fun v H' y=>?_⟩
   obtain⟨e,y⟩:=y
   subst e
   exact hs i v ys _ (y xs q) hl hw
 · have e:i=xs.length:=by omega
   subst e
   exact .inl ⟨⟨xs,q,Nat.le_refl _⟩,hd ys H hl hw⟩
section
variable {X:Cx}
theorem jL:iB X (binaryOp .Mult) (rI (fun i j=>Builtin.Int.intBits i≤60000000∧Builtin.Int.intBits j≤60000000) fun i j=>.int (i*j)):=opI fun i j _ _ _ _ _ hc q=>mul_int q (IntMulOk.of_le hc.1 hc.2 (by decide))
def JC (xs:List Nat) (lo hi:Option Int):List Nat:=(xs.drop (HT.MN xs.length 0 lo)).take (HT.MN xs.length xs.length hi - HT.MN xs.length 0 lo)
theorem JD (xs:List Nat) (i k:Nat):(List.range k).filterMap (fun m=>xs[i+m]?)=(xs.drop i).take k:=by
 induction k generalizing i with
 | zero=>simp
 | succ k ih =>
   rw [List.range_succ_eq_map,List.filterMap_cons]
   have e:(List.map Nat.succ (List.range k)).filterMap (fun m=>xs[i+m]?)=(List.range k).filterMap (fun m=>xs[(i+1)+m]?):=by
     rw [List.filterMap_map]
     congr 1
     funext m
     show xs[i+(m+1)]? = xs[i+1+m]?
     congr 1;omega
   rw [e,ih (i+1)]
   by_cases hi:i<xs.length
   · rw [Nat.add_zero,List.getElem?_eq_getElem hi,List.drop_eq_getElem_cons hi,List.take_succ_cons]
   · rw [Nat.add_zero,List.getElem?_eq_none (Nat.not_lt.mp hi),List.drop_eq_nil_of_le (Nat.not_lt.mp hi),List.drop_eq_nil_of_le (by omega)]
     simp
theorem Hq (lo hi:Option Int) (n:Nat):Builtin.Str.strSliceIndices lo hi 1 n=(List.range (HT.MN n n hi - HT.MN n 0 lo)).map fun m=>HT.MN n 0 lo+m:=by
 unfold Builtin.Str.strSliceIndices sliceRange
 have h1:(1:Int) > 0:=by omega
 simp only [h1,if_true,Int.ediv_one]
 have cl:∀ (v:Int) (d:Nat),max 0 (min (if v<0 then v+(n:Int) else v) (n:Int))=((HT.MN n d (some v):Nat):Int):=fun v d=>by
   show _=(((if v<0 then (v+(n:Int)).toNat else min v.toNat n):Nat):Int)
   by_cases hv:v<0
   · simp only [if_pos hv];omega
   · simp only [if_neg hv];omega
 have fin:∀ a b:Nat,(List.range (if (a:Int)<(b:Int) then (b:Int) - (a:Int)+1 - 1 else 0).toNat).map (fun k:Nat=>((a:Int)+1*(k:Int)).toNat)=(List.range (b - a)).map fun m=>a+m:=fun a b=>by
   have e1:(if (a:Int)<(b:Int) then (b:Int) - (a:Int)+1 - 1 else 0).toNat=b - a:=by split <;> omega
   rw [e1]
   apply List.map_congr_left
   intro k _
   omega
 cases lo with
 | none =>
   cases hi with
   | none=>exact fin 0 n
   | some v=>simp only [cl v n];exact fin 0 _
 | some u =>
   cases hi with
   | none=>simp only [cl u 0];exact fin _ n
   | some v=>simp only [cl u 0,cl v n];exact fin _ _
theorem JG (x:Str) (lo hi:Option Int):Txt.slice x lo hi=S (JC (cd x) lo hi):=by
 unfold Txt.slice
 rw [Hq]
 have hx:x.length=(cd x).length:=jl x
 split
 · rename_i h
   simp only [Bool.and_eq_true,beq_iff_eq,List.length_map,List.length_range] at h
   rw [hx] at h
   have h2:=h.2
   have l1:=HT.QV (cd x).length (cd x).length (Nat.le_refl _) hi
   unfold JC
   rw [h2]
   have l0:HT.MN (cd x).length 0 lo=0∨(cd x).length=0:=by omega
   rcases l0 with l0 | l0
   · rw [l0,List.drop_zero,List.take_length,Jy]
   · have e:cd x=[]:=List.eq_nil_of_length_eq_zero l0
     apply Q7
     rw [e];simp [Nf]
 · rw [List.filterMap_map]
   unfold S JC
   congr 2
   rw [← JD,hx]
   congr 1
   funext m
   show x.cps[_]? = (cd x)[_]?
   simp [cd]
theorem Q9:wD X (fun x lo hi H Q=>∃ z,x=.str z∧z.length≤sizeLine∧Q (.str (S (JC (cd z) lo hi))) H):=by
 intro pins s σ H x v vl vu lo hi sl Q I rx hs pl pu h
 obtain⟨z,rfl,hz,q⟩:=h
 obtain⟨t,rfl⟩:=rx
 refine⟨"str",_,slot_str_getitem.lookup,typeIs_str s z t,?_⟩
 rw [← JG] at q
 have fin:∀ (l u:Option (Int × Tok)),l.map (·.1)=lo→u.map (·.1)=hi→vl=partValue l→vu=partValue u→wpAny (model X.prog X.w) X.A (getItem (.str z t) (.ref sl)) (EP X pins σ Q) X.xe s:=fun l u e1 e2 e3 e4=>by
   subst e3 e4
   obtain⟨o,ho,hc,hd⟩:=hs
   subst e1 e2
   exact wpAny_getItem_str_slice (l:=l) (u:=u) (st:=none) ⟨o,ho,hc,hd⟩ rfl (post_val_or_str ⟨Nat.le_trans (Txt.slice_le z _ _) hz,fun t' k=>⟨.str _,H,I.tok _,⟨_,rfl⟩,q⟩⟩)
 cases pl with
 | none =>
   cases pu with
   | none=>exact fin none none rfl rfl rfl rfl
   | int i t=>exact fin none (some (i,t)) rfl rfl rfl rfl
 | int j t' =>
   cases pu with
   | none=>exact fin (some (j,t')) none rfl rfl rfl rfl
   | int i t=>exact fin (some (j,t')) (some (i,t)) rfl rfl rfl rfl
end
end L2
namespace Att
open PySem PySem.W PySem.Calls PyProof.Rows
theorem Br {ns:List Int} (h:WData.layableAll [WData.list (ns.map WData.int)]=true):∀ n∈ns,Builtin.Int.intBits n≤1048576:=by
 have h1:(WData.list (ns.map WData.int)).layable=true:=by simpa [WData.layableAll] using h
 intro n hn
 have h2:=layableW_item h1 (.int n) (List.mem_map.mpr ⟨n,hn,rfl⟩)
 have h3:=(layableW_iff.mp h2).2.2
 simpa [WData.weight,Builtin.Int.intBits] using h3
theorem yx {l:OpenLaw}{n:Nat}{q:Program}{loose:List Str}{XP:(Str→Option Value)→Heap→Prop}{YP:World→Heap→Prop}{d:DefRec}
   (hn:l.most=some n) (hdf:d.params.defaults=[])
   (call:∀ (w:World) (s₀ s₁:Shared) (mg mb:Str→Option Value) (fa:Addr) (o:Obj) (pm cd doc:Value) (a:Addr) (vs:List Value) (ns:List Int),
     Ground q loose [] XP w s₀ mg mb s₁.heap→YP w s₁.heap →
     s₁.heap.get? fa=some o→o.data=.func (docDef d.name d.params d.body d.scope pm cd doc)→s₁.heap.CodeRec cd d.name→mg d.name=some (.ref fa) →
     s₁.heap.get? a=some { cls:=.type "list",data:=.seq vs.toArray }→IntsAre vs ns→ns.length≤n→(∀ n∈ns,Builtin.Int.intBits n≤1048576)→s₁.gens=#[] →
     codeAny (model l.prog w) callerA (.call (.ref fa) ⟨[.ref a],[]⟩) (fun r s'=>r=.ok (.ret (.bool true))∧OldK s₁.heap s'.heap∧s'.os=s₁.os∧AllBare s'.gens) s₁) :
   WalkO q loose XP YP l.row.toRowW d [] (fun f vs=>PySem.call f vs):=by
 intro w s₀ s₁ mg mb G Y fa o pm cd doc dV kV ho hd hcd hD hmg hg args vals as hpre hlay hrd hwl hlo
 obtain rfl:dV=.none:=Dflts.none hD hdf
 obtain rfl:kV=.none:=Dflts.noKw hD
 obtain⟨a,vs,ns,rfl,rfl,hobj,hints,hlen⟩:=Hk hn hpre hwl
 refine enter_call (codeAny_mono (call w s₀ s₁ mg mb fa o pm cd doc a vs ns G Y ho (fd_plain hd) hcd hmg hobj hints hlen (Br hlay) hg) fun r s' hq=>?_)
 obtain⟨rfl,h2,h3,h4⟩:=hq
 exact⟨.inl ⟨.bool true,.bool true,[],rfl,fun _=>rfl,.bool true,Hl l _,fun _=>⟨List.Pairwise.nil,fun _ hm=>(nomatch hm)⟩⟩,h2,h3,h4⟩
end Att
namespace L2
open PySem PySem.Spec PyProof.Rows
def Gn (mg:Str→Option Value) (x:Str) (v:V):Prop:=∃ u,mg x=some u∧RelV v u
theorem Bs {X:Cx}{x:Str}{v:V}{pos:Pos} (hg:Gl X x) (h:Gn X.mg x v) (hd:(x == ("__debug__":Str))=false:=by decide):PE X (.Name x pos) (tC v):=by
 obtain⟨u,hm,r⟩:=h
 exact Mw hg hm r hd
theorem gf.mod {K:PySem.W.Frag}{a:Addr}{oc:Value}{od:Option Addr}{its:Array Value}{n:Nat}{sl:Array (Option Value)}{xs:List V} (h:K.lookup a=some ⟨oc,od,.seq its n,sl⟩) (hc:oc=.type "tuple") (hz:its.size≤sizeLine) (hv:Vals xs its.toList) (H:Hp):gf K H a xs :=
 .inr ⟨_,its,n,h,hc,rfl,hz,hv⟩
theorem aD.tup {K:PySem.W.Frag}{H H':Hp}{a:Addr}{xs:List V} (e:aD H H') (h:gf K H a xs):gf K H' a xs:=by
 rcases h with (h | ⟨o,h⟩) | h
 · exact .inl (.inl (e _ _ h))
 · exact .inl (.inr ⟨o,e _ _ h⟩)
 · exact .inr h
theorem zH {H:Hp}{p:Addr} (h:H p=none) (o:HO):aD H (upd H p o):=fun b u q=>by rw [zG (zC q h)];exact q
namespace Bt
theorem int:bootBuiltins "int" = some (.type "int"):=PyProof.Rows.boot_int
theorem bool:bootBuiltins "bool" = some (.type "bool"):=PyProof.Rows.boot_bool
theorem str:bootBuiltins "str" = some (.type "str"):=PyProof.Rows.boot_str
theorem list:bootBuiltins "list" = some (.type "list"):=PyProof.Rows.boot_list
theorem tuple:bootBuiltins "tuple" = some (.type "tuple"):=PyProof.Rows.boot_tuple
theorem dict:bootBuiltins "dict" = some (.type "dict"):=PyProof.Rows.boot_dict
theorem set:bootBuiltins "set" = some (.type "set"):=PyProof.Rows.boot_set
theorem isinstance:bootBuiltins "isinstance" = some (.builtin "isinstance"):=PyProof.Rows.boot_isinstance
theorem all:bootBuiltins "all" = some (.builtin "all"):=PyProof.Rows.boot_all
theorem abs:bootBuiltins "abs" = some (.builtin "abs"):=PyProof.Rows.Boot.«abs»
end Bt
end L2
namespace L2
open PySem PySem.Spec PyProof.Rows
abbrev ib (x:Int):Nat:=Builtin.Int.intBits x
theorem JH {x:Int} (h1:-(2 ^ 64)<x) (h2:x<2 ^ 64):ib x≤64:=intBits_le_64 h1 h2
theorem Ra {m:Nat}{x:Int} (h:x.natAbs<2 ^ m):ib x≤m:=intBits_le_iff.mpr h
theorem uJ {α:Type}{l:List α}{i:Int} (h0:0≤i) (h1:i<l.length):∃ c,Jo l i=some c∧l[i.toNat]? = some c:=by
 have hk:i.toNat<l.length:=by omega
 refine⟨l[i.toNat],?_,List.getElem?_eq_getElem hk⟩
 have e:i=((i.toNat:Nat):Int):=by omega
 have q:Jo l ((i.toNat:Nat):Int)=some l[i.toNat]:=zX (List.getElem?_eq_getElem hk)
 rw [← e] at q
 exact q
theorem aD.ty {K:PySem.W.Frag}{H H':Hp}{x:V}{t:Value} (e:aD H H') (h:aN K H x t):aN K H' x t:=by
 cases h with
 | non=>exact .non
 | bl x=>exact .bl x
 | int i=>exact .int i
 | str x=>exact .str x
 | flt x=>exact .flt x
 | lst q=>exact .lst (e _ _ q)
 | ji q=>exact .ji (e _ _ q)
 | tup q=>exact .tup (e _ _ q)
 | dK q=>exact .dK (e _ _ q)
 | dT q=>exact .dT (e _ _ q)
 | ins q a b c d f=>exact .ins (e _ _ q) a b c d f
theorem zP {n m:Nat} (h:n≤m) (hm:m≤16777216:=by decide):n≤sizeLine:=by rw [sizeLine_eq];omega
structure JL (J:It) (te:TE) (σ:St) (H1:Hp) (Q:VK):Prop where
 ex:∃ (n:Nat) (W:Nat→List V→Hp→Prop),n≤sizeLine∧W 0 [] H1∧∀ i ys H,i≤n→ys.length=i→W i ys H →
   (J.stop i H∧∀ p,H p=none→Q (.ref p) (upd H p (.lst ys)))∨(J.go i H∧i<n∧∀ x H',J.Be i H x H'→te (some x::σ) H' fun v Ay=>W (i+1) (ys++[v]) Ay)
def Rb (wi:TI) (te:TE):TE:=fun σ H Q=>wi σ H fun J H1=>JL J te σ H1 Q
structure Ng (J:It) (g:TG) (tb:TS) (D:Ends) (σ:St) (H1:Hp):Prop where
 ex:∃ W:Nat→Nat→St→Hp→Prop,(∃ m,W 0 m σ H1)∧∀ i m σ H,W i m σ H →
   (J.stop i H∧D.nx σ H)∨(J.go i H∧∃ N:St→Hp→Prop,(∀ σ' H',N σ' H'→∃ m',m'<m∧W (i+1) m' σ' H')∧∀ x H',J.Be i H x H'→g x σ H' fun σ2 H2=>tb { D with nx:=N,ct:=N,bk:=D.nx } σ2 H2)
def V5 (wi:TI) (g:TG) (tb:TS):TS:=fun D σ H=>wi σ H fun J H1=>Ng J g tb D σ H1
structure Rc (c:TT) (tb:TS) (D:Ends) (σ:St) (H:Hp):Prop where
 ex:IW c tb D σ H
def Nh (c:TT) (tb:TS):TS:=fun D σ H=>Rc c tb D σ H
theorem PI.weak {X:Cx}{tg iter:Expr}{wi:TI} (h:PI X tg iter wi) {pins:List (Addr × Obj)}{s:Shared}{σ:St}{H:Hp}{R R':It→Hp→Prop} (I:Inv X pins σ H s) (hw:wi σ H R) (hR:∀ J H1,R J H1→R' J H1) :
   wpAny (model X.prog X.w) X.A (eval iter X.env) (fun v s1=>wpAny (model X.prog X.w) X.A (pyIter v) (PIE X pins σ tg R') X.xe s1) X.xe s:=by
 refine dh (h pins s σ H R I hw) fun v s1 h1=>dh h1 fun itv s2 zq=>?_
 obtain⟨it,fp,tn,J,H',e,I',T,st,f,r⟩:=zq
 exact⟨it,fp,tn,J,H',e,I',T,st,f,hR J H' r⟩
section
variable {X:Cx}{scope:Scope}{x:Str}{M:List Str}{elt iter:Expr}{px pos:Pos}{te:TE}{wi:TI}
theorem qD {tg:Expr}{wi wi':TI} (h:PI X tg iter wi) (hw:∀ σ H R,wi' σ H R→∃ R0,wi σ H R0∧∀ J H1,R0 J H1→R J H1):PI X tg iter wi':=by
 intro pins s σ H R I q
 obtain⟨R0,q0,hR⟩:=hw σ H R q
 exact h.weak I q0 hR
theorem Bu (K:cu X scope x M) (hc:X.calm=true) (hi:PI X (.Name x px) iter wi) (he:∀ (C:Addr) (s₂:Shared) (H₂:Hp) (fp:List Addr),PE (dI X scope C x M s₂ H₂ fp) elt te)
   (hs:∀ x,foldedSetIterable iter X.env x=pure x:=by intro _;rfl):PE X (.ListComp elt [⟨.Name x px,iter,[],0⟩] scope pos) (Rb wi te):=by
 intro pins s σ H Q I h
 have q:=Nb (pos:=pos) K hc (wi:=fun σ0 H0 R0=>∃ R,wi σ0 H0 R∧∀ J H1,R J H1→R0 J H1) (qD hi fun σ H R ⟨R1,a,b⟩=>⟨R1,a,b⟩) he hs pins s σ H Q I
 exact q ⟨_,h,fun J H1 r=>r.ex⟩
theorem yP {tg:Expr}{body:List Stmt}{g:TG}{tb:TS} (hp:PassesOwn (model X.prog X.w) X.A X.env X.xe) (hc:X.calm=true) (hi:PI X tg iter wi) (hg:PG X tg g) (hb:mO X body tb)
   (hs:∀ x,foldedSetIterable iter X.env x=pure x:=by intro _;rfl):PS X (.For tg iter body [] pos) (V5 wi g tb):=by
 intro pins s σ H D I h
 have q:=QL (pos:=pos) hp hc (wi:=fun σ0 H0 R0=>∃ R,wi σ0 H0 R∧∀ J H1,R J H1→R0 J H1) (qD hi fun σ H R ⟨R1,a,b⟩=>⟨R1,a,b⟩) hg hb hs pins s σ H D I
 exact q ⟨_,h,fun J H1 r=>r.ex⟩
theorem xX {c:Expr}{body:List Stmt}{tc:TT}{tb:TS} (hp:PassesOwn (model X.prog X.w) X.A X.env X.xe) (hc:PT X c tc) (hb:mO X body tb):PS X (.While c body [] pos) (Nh tc tb):=fun pins s σ H D I h=>Ja hp hc hb pins s σ H D I h.ex
end
theorem Hr {x:Str}{te:TE}{σ:St}{H:Hp}{Q:VK} (hz:x.length≤sizeLine) (W:Nat→List V→Hp→Prop) (h0:W 0 [] H)
   (hs:∀ i c ys H,(cd x)[i]? = some c→ys.length=i→W i ys H→te (some (.str (S [c]))::σ) H fun v H'=>W (i+1) (ys++[v]) H')
   (hd:∀ ys H,ys.length=x.length→W x.length ys H→∀ p,H p=none→Q (.ref p) (upd H p (.lst ys))):JL (Ur x) te σ H Q:=⟨JB hz W h0 hs hd⟩
theorem DR {K:PySem.W.Frag}{a:Addr}{xs:List V}{te:TE}{σ:St}{H:Hp}{Q:VK} (hz:xs.length≤sizeLine) (W:Nat→List V→Hp→Prop) (h0:W 0 [] H) (hq:∀ i ys H,W i ys H→bQ K H a xs)
   (hs:∀ i x ys H,xs[i]? = some x→ys.length=i→W i ys H→te (some x::σ) H fun v H'=>W (i+1) (ys++[v]) H')
   (hd:∀ ys H,ys.length=xs.length→W xs.length ys H→∀ p,H p=none→Q (.ref p) (upd H p (.lst ys))):JL (Jb K a) te σ H Q:=⟨Ho hz W h0 hq hs hd⟩
theorem yY {K:PySem.W.Frag}{a:Addr}{xs:List V}{g:TG}{tb:TS}{D:Ends}{σ:St}{H:Hp} (Pv:Nat→St→Hp→Prop) (h0:Pv 0 σ H) (hl:∀ i σ H,i≤xs.length→Pv i σ H→bQ K H a xs)
   (hs:∀ i x σ H,xs[i]? = some x→Pv i σ H→g x σ H fun σ2 H2=>tb { D with nx:=Pv (i+1),ct:=Pv (i+1),bk:=D.nx } σ2 H2) (hd:∀ σ H,Pv xs.length σ H→D.nx σ H):Ng (Jb K a) g tb D σ H:=⟨Jd Pv h0 hl hs hd⟩
theorem lB {lo:Int}{n:Nat}{g:TG}{tb:TS}{D:Ends}{σ:St}{H:Hp} (Pv:Nat→St→Hp→Prop) (h0:Pv 0 σ H)
   (hs:∀ i σ H,i<n→Pv i σ H→g (.int (lo+i)) σ H fun σ2 H2=>tb { D with nx:=Pv (i+1),ct:=Pv (i+1),bk:=D.nx } σ2 H2) (hd:∀ σ H,Pv n σ H→D.nx σ H):Ng (QK lo n) g tb D σ H:=⟨Hf Pv h0 hs hd⟩
theorem uK {α:Type}{f:α→V}{l:List α}{i:Nat}{x:V} (h:(l.map f)[i]? = some x):∃ a,l[i]? = some a∧x=f a:=by
 rw [List.getElem?_map] at h
 cases e:l[i]? with
 | none=>rw [e] at h;cases h
 | some a=>rw [e] at h;exact⟨a,rfl,(Option.some.inj h).symm⟩
theorem yz {K:PySem.W.Frag}{a b:String}{r:Bool} (h:(if (Value.type a == Value.type b)=true then some true else if PySem.W.kitMeta b=true then (fastBuiltinMro a).map (·.contains (Value.type b)) else none)=some r):PySem.W.kitOne K (.type a) (.type b)=some r:=h
end L2
namespace L2
open PySem PySem.Spec PyProof.Rows PySem.Calls
def TrD (h base:Heap) (e:Addr) (cls:Value) (dct:Option Addr) (fl:Value):Prop :=
 ∃ oe vs T oT ts,h.get? e=some oe∧(oe.cls=cls∧oe.dict=dct)∧oe.data=.fields vs∧vs[1]? = some (.ref T)∧base.get? T=none∧T≠e∧h.get? T=some oT∧oT.data=.fields ts∧ts[3]? = some fl
def V6 (base:Heap) (l:List Env) (e:Addr) (cls:Value) (dct:Option Addr) (fl:Value) (h:Heap):Prop :=
 base.StaysIn h∧base.get? e=none∧h.FunFrames base l∧TrD h base e cls dct fl
theorem V6.there {base h:Heap}{l:List Env}{e:Addr}{cls fl:Value}{dct:Option Addr} (x:V6 base l e cls dct fl h):∃ ob,h.get? e=some ob∧ob.cls=cls∧ob.dict=dct∧∃ vs,ob.data=.fields vs:=by
 obtain⟨_,_,_,oe,vs,_,_,_,he,hc,hd,_⟩:=x
 exact⟨oe,he,hc.1,hc.2,vs,hd⟩
section
variable {M:Model}{A:Around}{E:Value→Shared→Prop}{s:Shared}
end
end L2
namespace L2
open PySem PySem.Spec PyProof.Rows PySem.Calls
structure V7 (outer:List Env) (H H':Hp) (h B h1:Heap):Prop where
 PN:∀ b o,h.get? b=some o→H b=none→b∉frs outer→B.get? b=some o
 JM:∀ b o,h.get? b=some o→b∉frs outer→∃ o',B.get? b=some o'
 slot:∀ b o,h.get? b=some o→H b=none→b∈frs outer→∃ sl,h1.get? b=some { o with slots:=sl }
 free:∀ b o,h.get? b=some o→H b=none→H' b=none
 tups:∀ b xs,H b=some (.tup xs)→H' b=some (.tup xs)
 jW:∀ b o u,H b=some (.ji o u)→H' b=some (.ji o u)
 j7:∀ b ps,H b=some (.qp ps)→∃ more,H' b=some (.qp (ps++more))
theorem V7.step {outer:List Env}{H H':Hp}{h B h1 h2 base:Heap} (x:V7 outer H H' h B h1) (fr:h1.FunFrames base outer) (up:h1.UpToSlots h2):V7 outer H H' h B h2 :=
 ⟨x.PN,x.JM,fun b o e n hb=>by
   obtain⟨sl,q⟩:=x.slot b o e n hb
   obtain⟨_,o',ho',hd'⟩:=fr.mem hb
   rw [q] at ho';cases ho'
   obtain⟨sl',q'⟩:=up b _ q hd'
   exact⟨sl',q'⟩,x.free,x.tups,x.jW,x.j7⟩
theorem V7.un {outer:List Env}{H H':Hp}{h B h1:Heap} (x:V7 outer H H' h B h1) (st:B.StaysIn h1) (fr:h1.FunFrames B outer):Un (frs outer) [] H H' h h1 :=
 ⟨fun b o e n hb _=>st b o (x.PN b o e n hb),fun b o e n hb _=>x.slot b o e n hb,fun b o e n _=>x.free b o e n,fun b o e _=>by
   by_cases hb:b∈frs outer
   · obtain⟨_,o',ho',_⟩:=fr.mem hb
     exact⟨o',ho'⟩
   · obtain⟨o',q⟩:=x.JM b o e hb
     exact⟨o',st b o' q⟩,x.tups,x.jW,x.j7⟩
section
variable {P:Program}{w:World}{K:PySem.W.Frag}{mg:Str→Option Value}{base:Heap}{N:List Str}{qual:Str}{scope:Scope}{f:Addr}{cdv:Value}{A:Around}{outer:List Env}{s:Shared}{H:Hp}{E:XK}
end
section
variable {P:Program}{w:World}{K:PySem.W.Frag}{mg:Str→Option Value}{base:Heap}
end
end L2
namespace L2
open PySem PySem.Spec PyProof.Rows PySem.Calls PySem.W PySem.Builtin PySem.Builtin.ObjectAttr PySem.Builtin.Getset_descriptor
section
variable {prog:Program}{w:World}{A:Around}{E:Value→Shared→Prop}{s:Shared}{K:PySem.W.Frag}{x D:Addr}
def ClsAt (h:Heap) (x D:Addr):Prop:=∃ o,h.get? x=some o∧o.cls=.ref D
theorem ClsAt.type {M:Model}{h:Heap} (p:ClsAt h x D):Looks M h (typeOf (.ref x)) (.ref D):=by
 obtain⟨o,e,c⟩:=p
 exact c ▸ (Looks.ld e).andThen .now
theorem DW {M:Model}{h:Heap}{name:Str}{a g:Value} (X:K.In h) (hf:findIn K (.ref D) name=some (some a)) (hg:specialIn K a "__get__" = some (some g)) (ht:takesIn K a=some true):Looks M h (find (.ref x) (.ref D) name) (.bind g a):=by
 have l1:=looks_findIn (M:=M) X hf
 have l2:Looks M h (getOf (some a)) (some g):=looks_specialIn X hg
 have l3:=looks_takesIn (M:=M) X ht
 refine l1.andThen (l2.andThen ?_)
 have l4:Looks M h (dataDescriptor? (some a) (some g)) (some (g,a)):=l3.andThen .now
 exact l4.andThen (Looks.tag .now)
structure rJ (K:PySem.W.Frag) (D:Addr):Prop where
 ga:findIn K (.ref D) "__getattribute__" = some (some (.builtin "BaseException.__getattribute__"))
 gk:findIn K (.ref D) "__getattr__" = some none
 cl:(clsIn K D).isSome=true
 ha:findIn K (.ref D) "__class__" = some (some (.builtin "object.__class__"))
 hn:specialIn K (.builtin "object.__class__") "__get__" = some (some (.builtin "getset_descriptor.__get__"))
 tk:takesIn K (.builtin "object.__class__")=some true
 mo:mroIn K D (.type "object")=some true
 mb:mroIn K D (.type "BaseException")=some true
theorem class_get {R:Result→Shared→Prop} (c:rJ K D) (X:K.In s.heap) (p:ClsAt s.heap x D) (q:R (.ok (.ret (.ref D))) s) :
   codeAny (model prog w) A (.call (.builtin "getset_descriptor.__get__") ⟨[.builtin "object.__class__",.ref x,.ref D],[]⟩) R s:=by
 obtain⟨hh,g,d,t,os⟩:=s
 obtain⟨o,eo,ec⟩:=id p
 have t0:=p.type (M:=model prog w)
 have l1:=looks_mroIn (M:=model prog w) X c.mo
 have aeU:=KF.args_gs (Value.builtin "object.__class__") (Value.ref x) (Value.ref D)
 refine codeAny_call_builtin KF.slot_gs.plain KF.entry_gs
   (KF.slot_gs.check _ _ _ _ _ _ _ _ KF.type_class aeU ?_)
 unfold Builtin.«getset_descriptor.__get__»
   descrGet
 rw [dga_obj];refine wpAny_bind (wpAny_pure ?_)
 unfold descrGetter descrCheckInstance
   descrNameAndClass isInstance
 simp only [KF.owner_class]; (repeat lk)
 refine⟨Code.quiet_builtin _
   (by symm),codeAny_builtin KF.entry_class ?_⟩
 unfold Builtin.«object.__class__»
   shownTypeOf
 (repeat lk);exact q
theorem DX {tk:Tok}{R:Result→Shared→Prop} (c:rJ K D) (X:K.In s.heap) (p:ClsAt s.heap x D) (q:R (.ok (.ret (.ref D))) s) :
   codeAny (model prog w) A (.call (.builtin "BaseException.__getattribute__") ⟨[.ref x,.str "__class__" tk],[]⟩) R s:=by
 obtain⟨hh,g,d,t,os⟩:=s
 obtain⟨o,eo,ec⟩:=id p
 have t0:=p.type (M:=model prog w)
 have lb:=looks_mroIn (M:=model prog w) X c.mb
 have f0:=DW (x:=x) (M:=model prog w) X c.ha c.hn c.tk
 have hk:builtinKind "BaseException.__getattribute__" = some .slot:=by symm
 have hsplit:splitId "BaseException.__getattribute__" = some ("BaseException","__getattribute__"):=by symm
 have ha:=F.args_bexc_ga (.ref x) (.str "__class__" tk)
 refine codeAny_call_builtin F.excAttr_ValueError.ga.plain F.entry_bexc_ga ?_
 simp only [checkBuiltinCall,hk,hsplit]
 unfold isInstance
 refine wpAny_bind ?_
 (repeat (first | (with_reducible refine wpAny_call (class_get c X p ?_)) | lk))
 exact q
theorem JP {Q:Option Value→Shared→Prop} (c:rJ K D) (X:K.In s.heap) (p:ClsAt s.heap x D) (q:Q (some (.ref D)) { s with toks:=s.toks+1 }):wpAny (model prog w) A (getAttr? (.ref x) "__class__") Q E s:=by
 obtain⟨hh,g,d,t,os⟩:=s
 obtain⟨o,eo,ec⟩:=id p
 have t0:=p.type (M:=model prog w)
 have t1:=looks_findIn (M:=model prog w) X c.ga
 have f1:=looks_findIn (M:=model prog w) X c.gk
 have f3:=F.excAttr_ValueError.ga.bind (.ref x)
 unfold getAttr? getAttrBy? getAttrBy
 refine wpAny_bind (wpAny_mkText (wpAny_bind (wpAny_attempt (wpAny_holding (wpAny_bind (t0.at (wpAny_bind (t1.at ?_))))))))
 show wpAny _ _ (getAttrByItsOwn _ _ _ _ _ _) _ _ _
 unfold getAttrByItsOwn hookBefore
 refine wpAny_bind (f1.at (wpAny_bind (wpAny_attempt (wpAny_holding ?_))))
 show wpAny _ _ (boundAndCalled _ _ _) _ _ _
 unfold boundAndCalled
 rw [f3]
 refine wpAny_bind (wpAny_pure (wpAny_call ?_))
 refine DX c (s:=⟨hh,g,d,t+1,os⟩) X p ?_
 exact wpAny_pure (wpAny_pure q)
theorem Gp (c:rJ K D):KitX K (.ref x) (.ref D) (fun h=>ClsAt h x D) where
 ty:=fun _ _ _ p=>p.type
 it:=fun _ _ X _=>by
   obtain⟨cd,e⟩:=Option.isSome_iff_exists.mp c.cl
   unfold clsIn at e
   split at e
   · rename_i c' d' cd' sl' ho
     intro A' Q' E' s' k q
     unfold isType loadHead
     exact wpAny_bind (wpAny_loadPart (k _ _ (X _ _ ho)) (wpAny_pure q))
   · cases e
 ne:=fun h tp dd its n sl X htp=>by
   obtain⟨cd,e⟩:=Option.isSome_iff_exists.mp c.cl
   refine Bool.eq_false_iff.mpr fun q=>?_
   have z:D=tp:=Value.ref.inj (beq_iff_eq.mp q)
   subst z
   unfold clsIn at e
   split at e
   · rename_i c' d' cd' sl' ho
     have z:=(X _ _ ho).symm.trans htp
     cases z
   · cases e
 ca:=fun X p k=>JP c X p k
end
def V8 (a D:Addr):HO:=.ext fun h=>ClsAt h a D
def V9 (a D dx:Addr):HO:=.ext fun h=>∃ o,h.get? a=some o∧o.cls=.ref D∧o.dict=some dx∧∃ vs,o.data=.fields vs
inductive Mj (K:PySem.W.Frag) (H:Hp):V→Value→Prop where
 | old {x:V}{t:Value} (h:aN K H x t):Mj K H x t
 | exc {a D:Addr} (h:H a=some (V8 a D)) (c:rJ K D):Mj K H (.ref a) (.ref D)
 | tpl {a:Addr}{xs:List V} (h:gf K H a xs):Mj K H (.ref a) (.type "tuple")
 | Rf {a D dx:Addr} (h:H a=some (V9 a D dx)) (c:rJ K D):Mj K H (.ref a) (.ref D)
def Ni:V→Value
 | .ref a=>.ref a
 | .ty n=>.type n
 | _=>.none
def Gq:V→Bool
 | .ref _=>true
 | .ty _=>true
 | _=>false
section
variable {X:Cx}{pins:List (Addr × Obj)}{σ:St}{H:Hp}{s:Shared}{A:Around}{E:Value→Shared→Prop}{Q:Value→Shared→Prop}{c:Value}{b:Bool}
theorem JQ {x:V}{u t:Value} (I:Inv X pins σ H s) (rx:RelV x u) (ty:Mj X.K H x t):(∃ P:Heap→Prop,KitX X.K u t P∧P s.heap)∧u≠.builtin "__main__.__loader__#opaque":=by
 cases ty with
 | @tpl a xs h =>
   cases (show u=Value.ref a from rx)
   obtain⟨its,r,pl,hz⟩:=I.tuple h
   obtain⟨o,h1,h2,_⟩:=pl
   exact⟨⟨_,kitx_tuple,⟨o,h1,h2⟩⟩,fun z=>nomatch z⟩
 | old ty =>
   cases ty with
   | non=>cases (show u=Value.none from rx);exact⟨⟨_,kitx_none,True.intro⟩,fun z=>nomatch z⟩
   | bl y=>cases (show u=Value.bool y from rx);exact⟨⟨_,kitx_bool,True.intro⟩,fun z=>nomatch z⟩
   | int i=>obtain⟨t,q⟩:=(show ∃ t,u=Value.int i t from rx);cases q;exact⟨⟨_,kitx_int,True.intro⟩,fun z=>nomatch z⟩
   | str y=>obtain⟨t,q⟩:=(show ∃ t,u=Value.str y t from rx);cases q;exact⟨⟨_,kitx_str,True.intro⟩,fun z=>nomatch z⟩
   | flt y=>obtain⟨t,q⟩:=(show ∃ t,u=Value.float y t from rx);cases q;exact⟨⟨_,kitx_float,True.intro⟩,fun z=>nomatch z⟩
   | @lst a xs ea =>
     cases (show u=Value.ref a from rx)
     obtain⟨_,_,n,_,h1⟩:=(show bC X.prog X.w H s.heap a (.lst xs) from I.hok a _ ea)
     exact⟨⟨_,kitx_list,⟨_,h1,rfl⟩⟩,fun z=>nomatch z⟩
   | @ji a ob xs ea =>
     cases (show u=Value.ref a from rx)
     obtain⟨_,_,_,n,_,h1⟩:=(show bC X.prog X.w H s.heap a (.ji ob (.lst xs)) from I.hok a _ ea)
     exact⟨⟨_,kitx_list,⟨_,h1,rfl⟩⟩,fun z=>nomatch z⟩
   | @tup a xs ea =>
     cases (show u=Value.ref a from rx)
     obtain⟨_,_,_,p⟩:=(show bC X.prog X.w H s.heap a (.tup xs) from I.hok a _ ea)
     obtain⟨o,h1,h2,_⟩:=p
     exact⟨⟨_,kitx_tuple,⟨o,h1,h2⟩⟩,fun z=>nomatch z⟩
   | @dK a kvs ea =>
     cases (show u=Value.ref a from rx)
     obtain⟨_,_,vs,_,p⟩:=(show bC X.prog X.w H s.heap a (.dK kvs) from I.hok a _ ea)
     obtain⟨o,es,ep,h1,h2,_⟩:=p
     exact⟨⟨_,kitx_dict,⟨o,h1,h2.1⟩⟩,fun z=>nomatch z⟩
   | @dT a kvs ea =>
     cases (show u=Value.ref a from rx)
     obtain⟨_,_,xs,_,o,es,ep,h1,h2,_⟩:=(show bC X.prog X.w H s.heap a (.dT kvs) from I.hok a _ ea)
     exact⟨⟨_,kitx_dict,⟨o,h1,h2.1⟩⟩,fun z=>nomatch z⟩
   | @ins a C dx fs ea cl ha hn htk hm =>
     cases (show u=Value.ref a from rx)
     obtain⟨mA,O,_⟩:=uH I.hok ea
     obtain⟨od,J,_⟩:=O.look
     exact⟨⟨_,kitx_own (cl.get _) cl.hd ha hn htk hm,J⟩,fun z=>nomatch z⟩
 | @exc a D h c =>
   cases (show u=Value.ref a from rx)
   obtain⟨p,_⟩:=(show bC X.prog X.w H s.heap a (V8 a D) from I.hok a _ h)
   exact⟨⟨_,Gp c,p⟩,fun z=>nomatch z⟩
 | @Rf a D dx h c =>
   cases (show u=Value.ref a from rx)
   obtain⟨⟨o,e,k,_⟩,_⟩:=(show bC X.prog X.w H s.heap a (V9 a D dx) from I.hok a _ h)
   exact⟨⟨_,Gp c,⟨o,e,k⟩⟩,fun z=>nomatch z⟩
theorem Bv {x:V}{u:Value} (h:Gq x=true) (r:RelV x u):u=Ni x:=by
 cases x with
 | ref a=>exact r
 | ty n=>exact r
 | _=>cases h
theorem xY:∀ {xs:List V}{us:List Value},xs.all Gq=true→Vals xs us→us=xs.map Ni
 | [],_,_,.nil=>rfl
 | x::xs,_,h,.cons r rs=>by
   rw [List.all_cons,Bool.and_eq_true] at h
   rw [Bv h.1 r,xY h.2 rs];rfl
theorem ig:cZ X (.builtin "isinstance") (fun xs H Q=>∃ x y t b,xs=[x,y]∧Gq y=true∧Mj X.K H x t∧PySem.W.kitOne X.K t (Ni y)=some b∧Q (.bl b) H):=by
 intro pins s σ H xs us Q I r h
 obtain⟨x,y,t,b,rfl,hc,ty,e,q⟩:=h
 obtain⟨u,w',rfl,rx,ry⟩:=vals2 r
 obtain rfl:=Bv hc ry
 obtain⟨⟨P,Z,p⟩,nb⟩:=JQ I rx ty
 exact kia_one Z I.uO p e nb fun tk=>⟨.bl b,H,I.tok _,rfl,q⟩
theorem Hs:cZ X (.builtin "isinstance") (fun xs H Q=>∃ x tp cs t b,xs=[x,.ref tp]∧H tp=some (.tup cs)∧cs.all Gq=true∧Mj X.K H x t∧PySem.W.kitAny X.K t (cs.map Ni)=some b∧Q (.bl b) H):=by
 intro pins s σ H xs us Q I r h
 obtain⟨x,tp,cs,t,b,rfl,ht,hc,ty,e,q⟩:=h
 obtain⟨u,w',rfl,rx,ry⟩:=vals2 r
 cases ry
 obtain⟨⟨P,Z,p⟩,nb⟩:=JQ I rx ty
 obtain⟨_,its,rv,o,ho,hcl,n,hd⟩:=(show bC X.prog X.w H s.heap tp (.tup cs) from I.hok tp _ ht)
 obtain rfl:=xY hc rv
 obtain⟨oc,od,oda,osl⟩:=o
 dsimp only at hcl hd
 subst hcl hd
 exact kia_tup Z I.uO p ho e nb fun tk=>⟨.bl b,H,I.tok _,rfl,q⟩
end
end L2
namespace L2
open PySem PySem.Spec PyProof.Rows PySem.Calls PySem.W
abbrev PQ:List Value:=[.type "ValueError",.type "Exception",.type "BaseException",.type "object"]
section
variable {P:Program}{w:World}{K:PySem.W.Frag}{mg:Str→Option Value}{base:Heap}{N:List Str}{qual:Str}{scope:Scope}{f:Addr}{cdv:Value}{A:Around}{outer:List Env}{s:Shared}{H:Hp}{E:XK}
end
abbrev TSx:=Ends→(St→XK)→St→Hp→Prop
section
variable {X:Cx}{k:Nat}{f C:Addr}{fd:FuncData}{ps:List Str}{sp:Sp}{pG:List V}{ds:List Value}{x m:Str}{p pos apos:Pos}{e o:Expr}{es:List Expr}{ta:TE}{t:TA}
theorem PA.uT {es:List Expr}{t:TA} (h:PA X.uT es t) (E:Value→Shared→Prop) {pos:Pos}{pins:List (Addr × Obj)}{s:Shared}{σ:St}{H:Hp}{Q:List V→Hp→Prop} (I:Inv X pins σ H s) (q:t σ H Q) :
   wpAny (model X.prog X.w) X.A (spliced (backTo pos (starEach es X.env))) (AP X pins σ Q) E s :=
 wpAny_mono (h pos pins s σ H Q (I.wish _) q) (fun _ _ ⟨vs,H',I',r,q⟩=>⟨vs,H',I'.iy,r,q⟩) fun _ _ z=>False.elim z
end
def hcx (X:Cx) (e:Addr):Cx:={ X with A:=X.A.mark (some (.ref e)),calm:=false,xe:=fun _ _=>False }
section
variable {X:Cx}{body suite:List Stmt}{b₀:Stmt}{x:Str}{C:Addr}{np hpos pos:Pos}{tb:TSx}{th:TS}
end
end L2
namespace L2
open PySem PySem.Spec PyProof.Rows PySem.Calls PySem.W
section
variable {X:Cx}{pins:List (Addr × Obj)}{σ:St}{H:Hp}{s:Shared}
end
section
variable {X:Cx}{body suite:List Stmt}{b₀:Stmt}{x n:Str}{C:Addr}{np hpos pos:Pos}{tb:TSx}{th:TS}{j:Nat}
end
end L2
namespace L2
open PySem PySem.Spec PyProof.Rows PySem.Calls
section
variable {X:Cx}
def lC (l:List Nat):Nat→List Nat
 | 0=>[]
 | k+1=>lC l k++l
theorem vg (l:List Nat):∀ k,(lC l k).length=k*l.length
 | 0=>by simp [lC]
 | k+1=>by rw [lC,List.length_append,vg l k,Nat.succ_mul]
theorem JR (x:Str) (k:Nat):(⟨(List.replicate k x.cps).foldl (· ++ ·) #[]⟩:Str)=S (lC (cd x) k):=by
 have g:∀ k,(List.replicate k x.cps).foldl (· ++ ·) #[]=(lC (cd x) k).toArray:=fun k=>by
   induction k with
   | zero=>rfl
   | succ k ih=>rw [List.replicate_succ',List.foldl_append,ih];show _++x.cps=_;rw [lC];apply Array.ext';simp [cd]
 rw [g];rfl
theorem vh:iB X (binaryOp .Mult) (fun x y H Q=>∃ z n,x=.str z∧y=.int n∧0≤n∧n≤1000000∧z.length*n.toNat≤1000000∧z.length≤1000000∧Q (.str (S (lC (cd z) n.toNat))) H):=by
 intro pins s σ H x y v u Q I rx ry h
 obtain⟨z,n,rfl,rfl,h0,h1,h2,h3,q⟩:=h
 obtain⟨t,rfl⟩:=rx
 obtain⟨t',rfl⟩:=ry
 have tl:Builtin.Str.tooLong (z.length*n.toNat)=false:=by
   unfold Builtin.Str.tooLong
   exact decide_eq_false (by rw [sizeLine_eq];omega)
 refine P.mul_str ?_ ?_ (fun _ _=>tl) ?_
 · rw [decide_eq_false (by omega),decide_eq_false (by omega)];rfl
 · intro hn _ hgt
   have:(2 ^ 63 - 1:Int) / n ≥ 1000000:=by
     have:(1000000:Int)*n≤2 ^ 63 - 1:=by omega
     exact Int.le_ediv_of_mul_le (by omega) this
   omega
 · have fin:∀ y:Str,y=S (lC (cd z) n.toNat)→∀ t tk,EP X pins σ Q (.str y t) { s with toks:=tk }:=fun y e t tk=>by
     subst e;exact⟨.str _,H,I.tok _,⟨_,rfl⟩,q⟩
   by_cases hn:n<1
   · rw [if_pos hn]
     have e0:n=0:=by omega
     subst e0
     exact⟨by rw [sizeLine_eq];exact Nat.zero_le _,fin _ rfl _ _⟩
   · rw [if_neg hn]
     by_cases h1:(n == 1 || z.length == 0)=true
     · rw [if_pos h1]
       refine fin z ?_ t s.toks
       rcases Bool.or_eq_true_iff.mp h1 with e | e
       · have e':n=1:=by simpa using e
         subst e'
         show z=S (lC (cd z) 1)
         rw [show lC (cd z) 1=cd z from by simp [lC],Jy]
       · have e':(cd z)=[]:=List.eq_nil_of_length_eq_zero (by rw [← jl];simpa using e)
         have:∀ k,lC [] k=[]:=fun k=>by induction k with | zero=>rfl | succ k ih=>simp [lC,ih]
         rw [e',this,← e',Jy]
     · rw [if_neg h1]
       refine⟨?_,fin _ (JR z n.toNat) _ _⟩
       rw [JR,Gm,vg,← jl,sizeLine_eq,Nat.mul_comm]
       omega
end
end L2
namespace L2
open PySem PySem.Spec PyProof.Rows PySem.Calls
structure Bw (K:PySem.W.Frag) (x qual:Str) (st:Stmt) (ds:List Value) (f:Addr) (fd:FuncData):Prop where
 ex:∃ (T:Addr) (oc:Value) (od:Option Addr) (kV doc pm:Value) (an:Option Addr) (cdv ct:Value) (osl:Array (Option Value)) (to:Obj) (n:Nat),
   fd=PySem.W.fnOf x qual (ao st) (ak st) (aa st) (.ref T) kV doc pm an cdv ct∧K.lookup f=some ⟨oc,od,.func fd,osl⟩∧PySem.W.codeIn K cdv qual=true∧K.lookup T=some to∧to.cls=.type "tuple"∧to.data=.seq ds.toArray n
 kp:PySem.W.keepIn K (.ref f)=true
section
variable {P:Program}{w:World}{K:PySem.W.Frag}{mg:Str→Option Value}{base:Heap}{x qual:Str}{st:Stmt}{f:Addr}{fd:FuncData}{N ps:List Str}{k:Nat}{sp:Sp}{ds:List Value}
theorem Bw.ok (F:Bw K x qual st ds f fd) (S:aC N ps (aa st)) (len:∀ vs H Q E,sp vs H Q E→vs.length=ps.length)
   (hbody:∀ (cdv:Value) (A:Around) (outer:List Env) (s:Shared) (H:Hp) (vs:List V) (Q:VK) (E:XK),dq k (A.deeper (envOfC qual (aa st) s.heap.objs.size f cdv))→sp vs H Q E →
     ∃ t,mO (yp bW P w K mg base N qual (aa st) f cdv A outer s H E).uT (ak st) t∧t { nx:=fun _ H'=>Q .non H',rt:=Q } (start N vs) H):bz P w K mg base bW (k+1) f fd ps sp:=by
 obtain⟨T,oc,od,kV,doc,pm,an,cdv,ct,osl,to,n,rfl,lk,hcd,_⟩:=F.ex
 refine Jl lk hcd S len fun A outer s H vs Q E hr hsp=>?_
 obtain⟨t,h,q⟩:=hbody cdv A outer s H vs Q E hr hsp
 exact⟨t,h.uT,q⟩
theorem Bw.binds {es:List Value} (F:Bw K x qual st ds f fd)
   (h:∀ (T:Addr) (kV doc pm:Value) (an:Option Addr) (cdv ct:Value) (us:List Value) (M:Model) (A:Around) (E:Value→Shared→Prop) (Q:List (Str × Value)→Shared→Prop) (s:Shared) (to:Obj) (n:Nat),s.heap.get? T=some to→to.cls=.type "tuple"→to.data=.seq ds.toArray n →
     (us++es).length=ps.length→Q (ps.zip (us++es)) s→wpAny M A (bindArgs (PySem.W.fnOf x qual (ao st) (ak st) (aa st) (.ref T) kV doc pm an cdv ct) ⟨us,[]⟩) Q E s):Binds K fd ps es:=by
 obtain⟨T,oc,od,kV,doc,pm,an,cdv,ct,osl,to,n,rfl,lk,hcd,lt,tc,td⟩:=F.ex
 intro s us X hl M A E Q q
 exact h T kV doc pm an cdv ct us M A E Q s to n (X _ _ lt) tc td hl q
end
section
variable {K:PySem.W.Frag}{C D:Addr}{cd:ClassData}{r b:Bool}{T:String}
theorem Bx:PySem.W.kitOne K (.ref D) (.ref D)=some true:=by unfold PySem.W.kitOne;rw [if_pos (beq_self_eq_true _)]
theorem DY (h1:PySem.W.clsIn K C=some cd) (h2:PySem.W.typeIn K (.ref C)=some (.type "type")) (h3:PySem.W.mroIn K D (.ref C)=some r):PySem.W.kitCls K (.ref D) (.ref C)=some r:=by
 show (if ((PySem.W.clsIn K C).isSome && PySem.W.typeIn K (.ref C) == some (.type "type"))=true then PySem.W.mroIn K D (.ref C) else none)=some r
 rw [h1,h2,h3];rfl
theorem Gr (h1:PySem.W.clsIn K C=some cd) (h2:PySem.W.typeIn K (.ref C)=some (.type "type")) (h3:PySem.W.mroIn K D (.ref C)=some r) (hne:(Value.ref D == Value.ref C)=false):PySem.W.kitOne K (.ref D) (.ref C)=some r:=by
 unfold PySem.W.kitOne
 rw [if_neg (by rw [hne];decide)]
 exact DY h1 h2 h3
theorem uL {α:Type}{us ds:List α}{n m:Nat} (h:(us++ds).length=n) (hm:ds.length+m=n):us.length=m:=by rw [List.length_append] at h;omega
theorem lD {x qual:Str}{st:Stmt}{f T:Addr}{oc:Value}{od an dd:Option Addr}{osl dsl:Array (Option Value)}{kV doc pm cdv ct:Value}{ds:List Value}{n:Nat} (l:K.lookup f=some ⟨oc,od,.func (PySem.W.fnOf x qual (ao st) (ak st) (aa st) (.ref T) kV doc pm an cdv ct),osl⟩)
   (c:PySem.W.codeIn K cdv qual=true) (k:PySem.W.keepIn K (.ref f)=true) (lt:K.lookup T=some ⟨.type "tuple",dd,.seq ds.toArray n,dsl⟩):Bw K x qual st ds f (PySem.W.fnOf x qual (ao st) (ak st) (aa st) (.ref T) kV doc pm an cdv ct) :=
 ⟨⟨T,oc,od,kV,doc,pm,an,cdv,ct,osl,_,n,rfl,l,c,lt,rfl,rfl⟩,k⟩
end
end L2
namespace L2
theorem Bt.ValueError:PySem.bootBuiltins "ValueError" = some (.type "ValueError"):=PyProof.Rows.Boot.«ValueError»
open PySem PySem.Spec PyProof.Rows
def val (l:List Nat):Int:=l.foldl (fun a c=>a*10+((c - 48:Nat):Int)) 0
structure vm (n:Nat) (z:Str):Prop where
 len:z.length≤n
 cod:∀ c∈cd z,c<1000
theorem vm.mono {n m:Nat}{z:Str} (h:vm n z) (l:n≤m):vm m z:=⟨Nat.le_trans h.len l,h.cod⟩
theorem vm.app {n m:Nat}{x y:Str} (h:vm n x) (k:vm m y):vm (n+m) (x++y):=by
 refine⟨?_,fun c hc=>?_⟩
 · rw [jl,rH,List.length_append,← jl,← jl];have:=h.len;have:=k.len;omega
 · rw [rH] at hc
   rcases List.mem_append.mp hc with e | e
   · exact h.cod c e
   · exact k.cod c e
theorem vm.size {n:Nat}{z:Str} (h:vm n z) (hn:n≤100000:=by decide):z.length≤sizeLine:=by rw [sizeLine_eq];have:=h.len;omega
theorem vm.int {i:Int}{k:Nat} (hk:0<k) (h:i.natAbs<10 ^ k):vm (k+1) (toString i):=by
 refine⟨?_,fun c hc=>?_⟩
 · rw [show ((toString i:String):Str).length=(toString i).length from PySem.ofString_length _]
   exact int_text_length_le10 hk h
 · rcases Nat.lt_or_ge c 1000 with z | z
   · exact z
   · exact absurd hc (int_text_free' c ⟨by omega,by omega⟩ i)
end L2
namespace L2
open PySem PySem.Spec PyProof.Rows PySem.Calls
structure Nj (X:Cx) (H:Hp) (n:Nat) (x y:V) (b:Bool):Prop where
 rc:∀ (pins:List (Addr × Obj)) (s:Shared) (σ:St) (u v:Value) (A:Around),Inv X pins σ H s→RelV x u→RelV y v→A.units+n<cLine→SeqAt.RcAt A s u v b
 ne:∀ (pins:List (Addr × Obj)) (s:Shared) (σ:St) (u v:Value) (A:Around),Inv X pins σ H s→RelV x u→RelV y v→A.units+n<cLine→SeqAt.RcNeAt A s u v (!b)
def Ht (X:Cx) (H:Hp) (n:Nat) (x y:V) (b:Bool):Prop :=
 ∀ (pins:List (Addr × Obj)) (s:Shared) (σ:St) (u v:Value) (A:Around),Inv X pins σ H s→RelV x u→RelV y v→A.units+n<cLine→SeqAt.EqAt A s u v b
section
variable {X:Cx}{H:Hp}{n:Nat}{x y:V}{b:Bool}{p q:Addr}{xs ys:List V}
theorem By (fx:dD x=true) (fy:dD y=true):Ht X H n x y (Dm x y):=fun _ _ _ _ _ _ _ rx ry _=>Jp rx ry fx fy
theorem JS:Ht X H n (.ref p) (.ref p) true:=fun _ _ _ _ _ _ _ rx ry _=>by cases rx;cases ry;exact SeqAt.EqAt.same _
theorem JT (hn:p≠q) (h:Nj X H n (.ref p) (.ref q) b):Ht X H n (.ref p) (.ref q) b:=fun pins s σ u v A I rx ry hu=>by
 have r:=h.rc pins s σ u v A I rx ry hu
 cases rx;cases ry
 exact SeqAt.EqAt.of_refs hn r
theorem qF {xs:List V}{us:List Value} (r:Vals xs us) {j:Nat} (h:j<us.toArray.size):∃ x,xs[j]? = some x∧RelV x us.toArray[j]:=by
 have hj:j<us.length:=by simpa using h
 have hx:j<xs.length:=by rw [r.length];exact hj
 obtain⟨u,hu,ru⟩:=r.get (List.getElem?_eq_getElem hx)
 refine⟨xs[j],List.getElem?_eq_getElem hx,?_⟩
 rw [List.getElem?_eq_getElem hj] at hu
 cases hu
 simpa using ru
theorem xZ {e:Nat→Bool} (h:bQ X.K H p xs) (k:bQ X.K H q ys) (hl:xs.length=ys.length) (he:∀ (j:Nat) x y,xs[j]? = some x→ys[j]? = some y→Ht X H n x y (e j)) :
   Nj X H (n+1) (.ref p) (.ref q) ((List.range xs.length).all e):=by
 have g:∀ (pins:List (Addr × Obj)) (s:Shared) (σ:St) (A:Around),Inv X pins σ H s→A.units+(n+1)<cLine→∃ its its':List Value,s.heap.IsList p its.toArray∧s.heap.IsList q its'.toArray∧its.toArray.size=its'.toArray.size∧its.toArray.size=xs.length ∧
     ∀ j (h1:j<its.toArray.size) (h2:j<its'.toArray.size),SeqAt.EqAt A.in1 s its.toArray[j] its'.toArray[j] (e j):=fun pins s σ A I hu=>by
   obtain⟨its,r,pl,_⟩:=I.list h
   obtain⟨its',r',Rg,_⟩:=I.list k
   have l1:=r.length
   have l2:=r'.length
   refine⟨its,its',pl.isList,Rg.isList,by simp only [List.size_toArray];omega,by simp only [List.size_toArray];omega,fun j h1 h2=>?_⟩
   obtain⟨x,hx,rx⟩:=qF r h1
   obtain⟨y,hy,ry⟩:=qF r' h2
   exact he j x y hx hy pins s σ _ _ A.in1 I rx ry (by show A.units+1+n<_;omega)
 refine⟨fun pins s σ u v A I rx ry hu=>?_,fun pins s σ u v A I rx ry hu=>?_⟩ <;> (cases rx;cases ry;have hu':A.units<cLine:=by omega)
 · obtain⟨its,its',a,b,c,d,z⟩:=g pins s σ A I hu
   rw [← d];exact SeqAt.RcAt.lists a b c hu' z
 · obtain⟨its,its',a,b,c,d,z⟩:=g pins s σ A I hu
   rw [← d];exact SeqAt.RcNeAt.lists a b c hu' z
theorem wH (h:bQ X.K H p xs) (k:bQ X.K H q ys) (hl:xs.length≠ys.length):Nj X H (n+1) (.ref p) (.ref q) false:=by
 refine⟨fun pins s σ u v A I rx ry hu=>?_,fun pins s σ u v A I rx ry hu=>?_⟩ <;> (cases rx;cases ry;have hu':A.units<cLine:=by omega)
 · obtain⟨its,r,pl,_⟩:=I.list h
   obtain⟨its',r',Rg,_⟩:=I.list k
   exact SeqAt.RcAt.lists_lengths pl.isList Rg.isList (by rw [List.size_toArray,List.size_toArray,← r.length,← r'.length];simpa using hl) hu'
 · obtain⟨its,r,pl,_⟩:=I.list h
   obtain⟨its',r',Rg,_⟩:=I.list k
   exact SeqAt.RcNeAt.lists_lengths pl.isList Rg.isList (by rw [List.size_toArray,List.size_toArray,← r.length,← r'.length];simpa using hl) hu'
theorem JV {e:Nat→Bool} (h:gf X.K H p xs) (k:gf X.K H q ys) (he:∀ (j:Nat) x y,xs[j]? = some x→ys[j]? = some y→Ht X H n x y (e j)) :
   Nj X H (n+1) (.ref p) (.ref q) ((List.range (min xs.length ys.length)).all e && xs.length == ys.length):=by
 have g:∀ (pins:List (Addr × Obj)) (s:Shared) (σ:St) (A:Around),Inv X pins σ H s→A.units+(n+1)<cLine→∃ its its':List Value,s.heap.IsTuple p its.toArray∧s.heap.IsTuple q its'.toArray∧its.toArray.size=xs.length∧its'.toArray.size=ys.length ∧
     ∀ j (h1:j<its.toArray.size) (h2:j<its'.toArray.size),SeqAt.EqAt A.in1 s its.toArray[j] its'.toArray[j] (e j):=fun pins s σ A I hu=>by
   obtain⟨its,r,pl,_⟩:=I.tuple h
   obtain⟨its',r',Rg,_⟩:=I.tuple k
   have l1:=r.length
   have l2:=r'.length
   refine⟨its,its',pl,Rg,by simp only [List.size_toArray];omega,by simp only [List.size_toArray];omega,fun j h1 h2=>?_⟩
   obtain⟨x,hx,rx⟩:=qF r h1
   obtain⟨y,hy,ry⟩:=qF r' h2
   exact he j x y hx hy pins s σ _ _ A.in1 I rx ry (by show A.units+1+n<_;omega)
 refine⟨fun pins s σ u v A I rx ry hu=>?_,fun pins s σ u v A I rx ry hu=>?_⟩ <;> (cases rx;cases ry;have hu':A.units<cLine:=by omega)
 · obtain⟨its,its',a,b,c,d,z⟩:=g pins s σ A I hu
   rw [← c,← d];exact SeqAt.RcAt.tuples a b hu' z
 · obtain⟨its,its',a,b,c,d,z⟩:=g pins s σ A I hu
   rw [← c,← d]
   exact SeqAt.RcNeAt.tuples a b hu' z
theorem BJ {x:V} (h:dD x=true):Dm x x=true:=by
 cases x <;> first | rfl | exact beq_self_eq_true _ | cases h
def BK:List V→List V→Bool
 | [],[]=>true
 | x::xs,y::ys=>Dm x y && BK xs ys
 | _,_=>false
theorem rK:∀ {xs ys:List V},xs.length=ys.length→(List.range xs.length).all (fun j=>Dm (xs.getD j .non) (ys.getD j .non))=BK xs ys
 | [],[],_=>rfl
 | x::xs,y::ys,h=>by
   have h':xs.length=ys.length:=Nat.succ.inj h
   rw [List.length_cons,List.range_succ_eq_map,List.all_cons,List.all_map,BK,← rK h']
   rfl
 | [],_::_,h=>by cases h
 | _::_,[],h=>by cases h
theorem zc:∀ {xs ys:List V},BK xs ys=true→xs.length=ys.length
 | [],[],_=>rfl
 | x::xs,y::ys,h=>by rw [BK,Bool.and_eq_true] at h;rw [List.length_cons,List.length_cons,zc h.2]
 | [],_::_,h=>by cases h
 | _::_,[],h=>by cases h
theorem vo:∀ {xs:List V},xs.all dD=true→BK xs xs=true
 | [],_=>rfl
 | x::xs,h=>by rw [List.all_cons,Bool.and_eq_true] at h;rw [BK,BJ h.1,vo h.2];rfl
theorem lE {xs:List V} (h:xs.all dD=true) {j:Nat}{x:V} (e:xs[j]? = some x):dD x=true∧xs.getD j .non=x :=
 ⟨List.all_eq_true.mp h x (List.mem_of_getElem? e),by rw [List.getD,e];rfl⟩
theorem Ea (h:bQ X.K H p xs) (k:bQ X.K H q ys) (fx:xs.all dD=true) (fy:ys.all dD=true):Nj X H (n+1) (.ref p) (.ref q) (BK xs ys):=by
 by_cases hl:xs.length=ys.length
 · rw [← rK hl]
   refine xZ h k hl fun j x y hx hy=>?_
   obtain⟨a,a'⟩:=lE fx hx
   obtain⟨b,b'⟩:=lE fy hy
   rw [a',b']
   exact By a b
 · have:BK xs ys=false:=by
     cases e:BK xs ys with
     | false=>rfl
     | true=>exact absurd (zc e) hl
   rw [this]
   exact wH h k hl
theorem Hu (h:gf X.K H p xs) (k:gf X.K H q ys) (fx:xs.all dD=true) (fy:ys.all dD=true):Nj X H (n+1) (.ref p) (.ref q) (BK xs ys):=by
 have e:((List.range (min xs.length ys.length)).all (fun j=>Dm (xs.getD j .non) (ys.getD j .non)) && xs.length == ys.length)=BK xs ys:=by
   by_cases hl:xs.length=ys.length
   · rw [← hl,Nat.min_self,beq_self_eq_true,Bool.and_true];exact rK hl
   · have:BK xs ys=false:=by
       cases e:BK xs ys with
       | false=>rfl
       | true=>exact absurd (zc e) hl
     rw [this,beq_eq_false_iff_ne.mpr hl,Bool.and_false]
 rw [← e]
 refine JV h k fun j x y hx hy=>?_
 obtain⟨a,a'⟩:=lE fx hx
 obtain⟨b,b'⟩:=lE fy hy
 rw [a',b']
 exact By a b
theorem Rh (hu:X.A.units+20<cLine):iB X (compareOp .Eq) (fun x y H Q=>∃ b,Nj X H 20 x y b∧Q (.bl b) H):=by
 intro pins s σ H x y v u Q I rx ry h
 obtain⟨b,e,q⟩:=h
 exact e.rc pins s σ v u X.A I rx ry hu X.prog X.w X.xe _ ⟨.bl b,H,I,rfl,q⟩
theorem Ri (hu:X.A.units+20<cLine):iB X (compareOp .NotEq) (fun x y H Q=>∃ b,Nj X H 20 x y b∧Q (.bl (!b)) H):=by
 intro pins s σ H x y v u Q I rx ry h
 obtain⟨b,e,q⟩:=h
 exact e.ne pins s σ v u X.A I rx ry hu X.prog X.w X.xe _ ⟨.bl (!b),H,I,rfl,q⟩
theorem Rj {A:Around}{k:Nat} (hr:dq k A):A.units+20<cLine:=by have:=hr.units;omega
end
end L2
namespace L2
open PySem PySem.Spec PyProof.Rows PySem.Calls
section
variable {P:Program}{w:World}{K:PySem.W.Frag}{mg:Str→Option Value}{base:Heap}
structure cM (P:Program) (w:World) (K:PySem.W.Frag) (mg:Str→Option Value) (base:Heap) (CX:wC) (k:Nat) (C:Addr) (m:Str) where
 f:Addr
 fd:FuncData
 ps:List Str
 sp:Sp
 ds:List Value
 pG:List V
 c:ym K C
 hm:Meth K C m f
 F:bz P w K mg base CX k f fd ps sp
 hb:Binds K fd ps ds
 hd:Vals pG ds
end
section
variable {X:Cx}{CX:wC}{k:Nat}{E:XK}{m:Str}{pos apos:Pos}{e o:Expr}{es:List Expr}{ta:TE}{t:TA}
def JW (X:Cx) (CX:wC) (k:Nat) (m:Str) (E:XK) (ta:TE) (t:TA):TE:=fun σ H Q=>ta σ H fun x H1=>∃ (a C dx:Addr) (fs:List (Str × V)) (M:cM X.prog X.w X.K X.mg X.base CX k C m),x=.ref a∧H1 a=some (.ins C dx fs)∧fs.lookup m=none ∧
 t σ H1 fun vs H2=>M.sp (x::(vs++M.pG)) H2 Q E
theorem zW {pl:Sem Bool} (hr:dq k X.A) (hx:Passes CX X E) (he:PE X o ta) (ha:PA X (e::es) t)
   (hst:starEach (e::es) X.env=(false,eval e X.env)::starEach es X.env:=by rfl) (hpl:(backTo pos (starEach es X.env)).any (·.1)=false:=by rfl)
   (ht:eval (.Call (.Attribute o m apos) (e::es) [] pos) X.env=(do
     let ov ← eval o X.env
     standAt apos.atName
     let (f,first) ← holding [ov] (getMethod ov m pl)
     callWith pos f first (backTo pos (starEach (e::es) X.env)) (backToKw pos (keywordEach [] X.env))):=by rfl) :
   PE X (.Call (.Attribute o m apos) (e::es) [] pos) (JW X CX k m E ta t):=by
 intro pins s σ H Q I h
 refine PySem.W.methodCall_KW (pl:=pl) (dh (he pins s σ H _ I h) fun u s1 ⟨x,H1,I1,rx,a,C,dx,fs,M,ex,ea,l,q⟩=>?_) ht
 subst ex
 obtain rfl:u=Value.ref a:=rx
 refine pN I1 ea M.c M.hm l ?_
 refine PySem.W.callWith_K (first:=[.ref a]) (h₀:=X.base) I.ok.mod.Pu M.hm.kp (dh (ha pos pins s1 σ H1 _ I1 q) fun us s2 ⟨vs,H2,I2,r,q2⟩=>⟨I2.uO,?_⟩) hst hpl
 exact yo (us:=.ref a::us) (vs:=.ref a::vs) M.F hr M.hb M.hd hx I2 (.cons rfl r) q2
theorem Hv {pl:Sem Bool} (hr:dq k X.A) (hx:Passes CX X E) (he:PE X o ta)
   (ht:eval (.Call (.Attribute o m apos) [] [] pos) X.env=(do
     let ov ← eval o X.env
     standAt apos.atName
     let (f,first) ← holding [ov] (getMethod ov m pl)
     callWith pos f first (backTo pos (starEach [] X.env)) (backToKw pos (keywordEach [] X.env))):=by rfl) :
   PE X (.Call (.Attribute o m apos) [] [] pos) (JW X CX k m E ta MJ):=by
 intro pins s σ H Q I h
 refine PySem.W.methodCall_KW (pl:=pl) (dh (he pins s σ H _ I h) fun u s1 ⟨x,H1,I1,rx,a,C,dx,fs,M,ex,ea,l,q⟩=>?_) ht
 subst ex
 obtain rfl:u=Value.ref a:=rx
 refine pN I1 ea M.c M.hm l ?_
 exact PySem.W.callWith_K0 (first:=[.ref a]) I1.uO M.hm.kp (yo (us:=[.ref a]) (vs:=[.ref a]) M.F hr M.hb M.hd hx I1 (.cons rfl .nil) q)
structure Gu (K:PySem.W.Frag) (C:Addr) (m:Str) (f:Addr):Prop where
 rd:PySem.W.readsIn K C (.type "type")=true
 at_:PySem.W.findCls K (.ref C) (.type "type") m=some (.val (.ref f))
 sp:PySem.W.specialIn K (.ref C) "__getattribute__" = some (some (.builtin "type.__getattribute__"))
 kp:PySem.W.keepIn K (.ref f)=true
theorem qG {pl:Sem Bool}{C f:Addr}{fd:FuncData}{ps:List Str}{sp:Sp}{x:Str}{np:Pos} (c:Gu X.K C m f) (F:bz X.prog X.w X.K X.mg X.base CX k f fd ps sp) (hr:dq k X.A) (hg:Gl X x) (hmg:X.mg x=some (.ref C)) (hb:Binds X.K fd ps []) (hx:Passes CX X E)
   (ha:PA X (e::es) t) (hd:(x == ("__debug__":Str))=false:=by decide)
   (hst:starEach (e::es) X.env=(false,eval e X.env)::starEach es X.env:=by rfl) (hpl:(backTo pos (starEach es X.env)).any (·.1)=false:=by rfl)
   (ht:eval (.Call (.Attribute (.Name x np) m apos) (e::es) [] pos) X.env=(do
     let ov ← eval (.Name x np) X.env
     standAt apos.atName
     let (f,first) ← holding [ov] (getMethod ov m pl)
     callWith pos f first (backTo pos (starEach (e::es) X.env)) (backToKw pos (keywordEach [] X.env))):=by rfl) :
   PE X (.Call (.Attribute (.Name x np) m apos) (e::es) [] pos) (Px sp [] E t):=by
 intro pins s σ H Q I h
 refine PySem.W.methodCall_KW (pl:=pl) (oR I hg hmg ?_ hd) ht
 refine PySem.W.method_cls I.uO c.sp (PySem.W.cls_value (s:=s) I.uO c.rd c.at_ rfl ?_)
 refine PySem.W.callWith_K (first:=[]) (h₀:=X.base) I.ok.mod.Pu c.kp (dh (ha pos pins _ σ H _ (I.tok _) h) fun us s2 ⟨vs,H2,I2,r,q2⟩=>⟨I2.uO,?_⟩) hst hpl
 exact yo (us:=us) (vs:=vs) F hr hb .nil hx I2 r q2
end
end L2
namespace L2
open PySem PySem.Spec PyProof.Rows
end L2
namespace L2
open PySem PySem.Spec PyProof.Rows PySem.Calls
section
variable {X:Cx}
end
theorem lk1 {a:Str}{v:V}{r:List (Str × V)}:((a,v)::r).lookup a=some v:=by rw [List.lookup_cons,beq_self_eq_true]
theorem lk2 {a b:Str}{v w:V} (h:(b == a)=false) {r:List (Str × V)}:((a,v)::(b,w)::r).lookup b=some w:=by rw [List.lookup_cons,h];exact lk1
structure Thing (K:PySem.W.Frag) (H:Hp) (x:V) where
 t:Value
 bi:Bool
 bb:Bool
 bs:Bool
 ty:Mj K H x t
 ki:PySem.W.kitOne K t (.type "int")=some bi
 kb:PySem.W.kitOne K t (.type "bool")=some bb
 ks:PySem.W.kitOne K t (.type "str")=some bs
 hi:(bi && !bb)=true→∃ n,x=.int n
 hs:bs=true→∃ z,x=.str z
 ni:∀ n,x=.int n→(bi && !bb)=true
 ns:∀ z,x=.str z→bs=true
 hbl:bb=true→∃ b,x=.bl b
 nbl:∀ b,x=.bl b→bb=true
theorem aD.aeW {K:PySem.W.Frag}{H H':Hp}{a:Addr}{xs:List V} (e:aD H H') (h:gf K H a xs):gf K H' a xs:=by
 rcases h with h | h
 · exact .inl (h.imp (fun k=>e _ _ k) (fun⟨o,k⟩=>⟨o,e _ _ k⟩))
 · exact .inr h
theorem aD.aeX {K:PySem.W.Frag}{H H':Hp}{x:V}{t:Value} (e:aD H H') (h:Mj K H x t):Mj K H' x t:=by
 cases h with
 | old h=>exact .old (e.ty h)
 | exc h c=>exact .exc (e _ _ h) c
 | Rf h c=>exact .Rf (e _ _ h) c
 | tpl h=>exact .tpl (e.aeW h)
def Thing.same {K:PySem.W.Frag}{H H':Hp}{x:V} (h:Thing K H x) (e:aD H H'):Thing K H' x:=⟨h.t,h.bi,h.bb,h.bs,e.aeX h.ty,h.ki,h.kb,h.ks,h.hi,h.hs,h.ni,h.ns,h.hbl,h.nbl⟩
theorem aD.upd {H H':Hp}{p:Addr}{o:HO} (e:aD H H') (h:H p=none∨H p=some o):aD H (L2.upd H' p o):=fun b u q=>by
 by_cases z:b=p
 · subst z
   rcases h with h | h
   · rw [h] at q;cases q
   · rw [h] at q;rw [zB];exact q
 · rw [zG z];exact e b u q
end L2
namespace L2
open PySem PySem.Spec PyProof.Rows
end L2
namespace L2
open PySem PySem.Spec PyProof.Rows PySem.Calls
theorem JX {X:Cx}{e:Expr}{te te':TE} (h:PE X e te') (h2:te'=te):PE X e te:=h2 ▸ h
def Rm (K:PySem.W.Frag) (a:Addr) (D:List (Str × Bool)):Prop :=
 (a == sysModules)=false∧∃ o es ep,K.lookup a=some o∧o.ExactDict∧o.data=.dict es ep∧KTD.Rows (fun (b:Bool) (v:Value)=>v=.bool b) es.toList D
theorem Nk {K:PySem.W.Frag}{a:Addr}{oc:Value}{od:Option Addr}{es:Array DictEntry}{ep:Nat}{sl:Array (Option Value)}{D:List (Str × Bool)} (h:K.lookup a=some ⟨oc,od,.dict es ep,sl⟩) (hs:(a == sysModules)=false) (hc:oc=.type "dict") (hd:od=none) (hsl:sl=#[]) (hr:KTD.Rows (fun (b:Bool) (v:Value)=>v=.bool b) es.toList D):Rm K a D:=by
 subst hc hd hsl
 exact⟨hs,_,es,ep,h,⟨rfl,rfl,rfl⟩,rfl,hr⟩
def vp (D:List (Str × Bool)) (z:Str):V:=match D.lookup z with
 | some b=>.bl b
 | none=>.non
theorem pO (z:Str):∀ D:List (Str × Bool),KTD.datumAt z (D.map fun p=>(p.1,KTD.Dat.flat (.bool p.2)))=(D.lookup z).map fun b=>KTD.Dat.flat (.bool b)
 | []=>rfl
 | (x,b)::D=>by
   show (if decide (z=x)=true then some (KTD.Dat.flat (.bool b)) else KTD.datumAt z (D.map fun p=>(p.1,KTD.Dat.flat (.bool p.2))))=_
   rw [pO z D,List.lookup_cons]
   by_cases h:z=x
   · subst h;rw [if_pos (decide_eq_true rfl),beq_self_eq_true];rfl
   · rw [if_neg (by simpa using h),beq_eq_false_iff_ne.mpr h]
section
variable {X:Cx}
theorem Nm {x:Str}{a:Addr}{D:List (Str × Bool)}{e:Expr}{te:TE}{np apos cpos:Pos} (hg:Gl X x) (hm:X.mg x=some (.ref a)) (hT:Rm X.K a D) (he:PE X e te) (m:M1 X (.Name x np) "get" apos e cpos) (hdb:(x == ("__debug__":Str))=false:=by decide) :
   PE X (.Call (.Attribute (.Name x np) "get" apos) [e] [] cpos) (fun σ H Q=>te σ H fun v H1=>∃ z,v=.str z∧Q (vp D z) H1):=by
 intro pins s σ H Q I h
 obtain⟨lo,o,es,ep,lk,hc,hd,hr⟩:=hT
 have T0:KTD.TextTab X.base a (D.map fun p=>(p.1,KTD.Dat.flat (.bool p.2))) :=
   ⟨lo,o,es,ep,I.ok.mod.Pu _ _ lk,hc,hd,hr.mono (f:=fun b=>KTD.Dat.flat (.bool b)) fun d v e=>by subst e;exact PyProof.V.Flat.bool d⟩
 have T:∀ {pins:List (Addr × Obj)}{σ:St}{H:Hp}{s:Shared},Inv X pins σ H s→KTD.Here X.base s.heap a (D.map fun p=>(p.1,KTD.Dat.flat (.bool p.2))):=fun I=>⟨T0,I.bk⟩
 refine wpAny_Call_method m.base m.few m.line PySem.F.plainAttrs_dict PySem.F.slot_dict_get PySem.F.type_dict_get (oR I hg hm ?_ hdb)
 refine⟨(T I).typeIs,(T I).noDict,?_⟩
 rw [m.trees]
 refine Calls.callWith_builtin rfl (Calls.evalArgs_plain (Calls.spliced_cons (dh (he pins s σ H _ I h) fun iv s2 ⟨y,H2,I2,ry,z,ez,q2⟩=>Calls.spliced_nil ?_)))
 subst ez
 obtain⟨t,rfl⟩:=ry
 refine call_meetsIn PySem.F.slot_dict_get (T I2).typeIs PySem.F.entry_dict_get (PySem.F.args_dict_get_2 _ _) (KTD.meets_get1 (h₀:=X.base)) ⟨T I2,fun d v ha hv=>?_,fun hn=>?_⟩
 · rw [pO] at ha
   cases hl:D.lookup z with
   | none=>rw [hl] at ha;cases ha
   | some b =>
     rw [hl] at ha
     cases ha
     have hv':v=.bool b:=PyProof.V.Flat.bool_inv hv
     subst hv'
     refine⟨.bl b,H2,I2.tok _,rfl,?_⟩
     unfold vp at q2
     rw [hl] at q2
     exact q2
 · rw [pO] at hn
   cases hl:D.lookup z with
   | some b=>rw [hl] at hn;cases hn
   | none =>
     refine⟨.non,H2,I2.tok _,rfl,?_⟩
     unfold vp at q2
     rw [hl] at q2
     exact q2
theorem BL:∀ {xs:List V}{us:List Value},Vals xs us→xs.all dD=true→∀ {x:V} (j:Nat) (h:j<us.toArray.size),Jq x us.toArray[j]=Dm (xs.getD j .non) x:=by
 intro xs us r f x j h
 obtain⟨y,hy,ry⟩:=qF r h
 obtain⟨a,b⟩:=lE f hy
 rw [b]
 exact DK ry a
def PX (x:V) (xs:List V) (j:Nat):Prop:=∃ y,xs[j]? = some y∧Dm y x=true∧∀ (m:Nat) z,m<j→xs[m]? = some z→Dm z x=false
theorem Hw:MtM X "list.index" (fun x vs H Q=>∃ p xs y j,x=.ref p∧vs=[y]∧bQ X.K H p xs∧xs.all dD=true∧dD y=true∧PX y xs j∧Q (.int (j:Nat)) H):=by
 intro pins s σ H x vs v us Q I rx rv h
 obtain⟨p,xs,y,j,rfl,rfl,hq,fs,fy,⟨y',hj,hy,hno⟩,q⟩:=h
 cases rx
 obtain⟨u,rfl,ru⟩:=rv.one
 obtain⟨its,r,pl,hz⟩:=I.list hq
 obtain⟨⟨cls,dd,data,sl⟩,ho,hc,n,hd⟩:=pl.isList
 simp only at hc hd
 subst hc hd
 have hl:=r.length
 have hlt:j<xs.length:=(List.getElem?_eq_some_iff.mp hj).1
 have hn:=uV
 refine call_meets PySem.F.slot_list_index ⟨_,ho,rfl⟩ PySem.F.entry_list_index (PySem.F.args_list_index_2 _ _)
   (SeqAt.list_indexAt p its.toArray n dd sl u (Jq y) j (by rw [List.size_toArray];omega) (by omega) ?_ ?_) ⟨ho,fun w hw=>qy ru fy r fs w (by simpa using hw),⟨.int j,H,I.tok _,⟨_,rfl⟩,q⟩⟩
 · rw [BL r fs,(lE fs hj).2];exact hy
 · intro m hm hmj
   rw [BL r fs]
   have hm':m<xs.length:=by omega
   have e:=List.getElem?_eq_getElem hm'
   rw [(lE fs e).2]
   exact hno m _ hmj e
end
end L2
namespace L2
open PySem PySem.Spec PyProof.Rows PySem.Calls
section
variable {prog:Program}{w:World}{A:Around}{R:Result→Shared→Prop}{I:Addr}{fp wr:List Addr}{G:Array GenState→Array GenState→Prop}{n:Nat}{P:Nat→Value→Prop}{St:Nat→Shared→Prop}
end
section
variable {prog:Program}{w:World}{A:Around}{E:Value→Shared→Prop}{s:Shared}
end
section
variable {X:Cx}
end
end L2
namespace L2
open PySem PySem.Spec PyProof.Rows PySem.Calls
section
variable {X:Cx}
end
end L2
namespace HT
open PySem PySem.Spec PyProof.Rows PySem.Calls
section
variable {prog:Program}{w:World}{A:Around}{E:Value→Shared→Prop}{s:Shared}
end
end HT
namespace L2
open PySem PySem.Spec PyProof.Rows PySem.Calls
section
variable {X:Cx}
end
end L2
namespace L2
open PySem PySem.Spec PyProof.Rows PySem.Calls
def wI (X:Cx) (ifs:List Expr) (t:TT):Prop :=
 ∀ (pins:List (Addr × Obj)) (s:Shared) (σ:St) (H:Hp) (Q:Bool→Hp→Prop),Inv X pins σ H s→t σ H Q →
   wpAny (model X.prog X.w) X.A (forIn ifs true fun c r=>if r=true then do let ok ← isTrue c X.env (eval c X.env);pure (ForInStep.yield ok) else pure (ForInStep.yield r)) (TP X pins σ Q) X.xe s
def P0:TT:=fun _ H Q=>Q true H
theorem vq {X:Cx}:wI X [] P0:=fun pins s σ H Q I h=>wpAny_pure ⟨H,I,h⟩
theorem JZ {X:Cx}{c:Expr}{t:TT} (hc:PT X c t):wI X [c] t:=fun pins s σ H Q I h=>by
 rw [List.forIn_cons]
 refine wpAny_bind (wpAny_bind (dh (hc pins s σ H Q I h) fun b s1 q=>wpAny_pure ?_))
 exact wpAny_pure q
theorem qH {prog:Program}{w:World}{A:Around}{R:Result→Shared→Prop}{s:Shared}{elt target iter:Expr}{ifs:List Expr}{scope:Scope}{pos:Pos}{it acc:Value}{env:Env} (I:Nat→Shared→Prop)
   (turn:∀ n s,I n s→wpAny (model prog w) A (pyNext it) (fun r s₁=>match r with
     | none=>R (.ok .next) s₁
     | some v=>wpAny (model prog w) A (letOwnedTupleGo target it v) (fun _ s₂=>wpAny (model prog w) A (assign target env v) (fun _ s₃ =>
         wpAny (model prog w) A (forIn ifs true fun c r=>if r=true then do let ok ← isTrue c env (eval c env);pure (ForInStep.yield ok) else pure (ForInStep.yield r)) (fun ok s₄ =>
           if ok=true then wpAny (model prog w) A (eval elt env) (fun x s₅ =>
             wpAny (model prog w) A (call (.builtin "list.append") [acc,x]) (fun _ s₆=>∃ m,m<n∧I m s₆) (notedBy (model prog w) A env fun e s'=>R (.error e) s') s₅)
             (notedBy (model prog w) A env fun e s'=>R (.error e) s') s₄ else ∃ m,m<n∧I m s₄)
           (notedBy (model prog w) A env fun e s'=>R (.error e) s') s₃) (notedBy (model prog w) A env fun e s'=>R (.error e) s') s₂) (notedBy (model prog w) A env fun e s'=>R (.error e) s') s₁)
     (notedBy (model prog w) A env fun e s'=>R (.error e) s') s)
   (n:Nat) (h:I n s):codeAny (model prog w) A (.compLoop (.ListComp elt [⟨target,iter,ifs,0⟩] scope pos) 0 it acc env) R s:=by
 refine codeAny_loop rfl I (fun n s hI=>?_) n h
 show wpAny _ A ((compTurn (.ListComp elt [⟨target,iter,ifs,0⟩] scope pos) 0 it acc env).onRaise (fun x=>do noteFrame x env;theTreesLotGoes x)) _ _ s
 refine wpAny_noted ?_
 rw [compTurn_list]
 refine wpAny_bind (wpAny_standAt (wpAny_bind (wpAny_mono (turn n s hI) (fun r s₁ h₁=>?_) fun _ _ h'=>h')))
 cases r with
 | none=>exact wpAny_pure h₁
 | some v =>
   refine wpAny_bind (wpAny_mono h₁ (fun _ s₂ h₂=>wpAny_bind (wpAny_mono h₂ (fun _ s₃ h₃=>?_) fun _ _ h'=>h')) fun _ _ h'=>h')
   refine wpAny_bind (wpAny_mono h₃ (fun ok s₄ h₄=>?_) fun _ _ h'=>h')
   cases ok with
   | false=>exact wpAny_pure ⟨rfl,h₄⟩
   | true=>exact wpAny_bind (wpAny_bind (wpAny_mono h₄ (fun x s₅ h₅=>wpAny_bind (wpAny_mono h₅ (fun _ s₆ h₆=>wpAny_pure (wpAny_pure ⟨rfl,h₆⟩)) fun _ _ h'=>h')) fun _ _ h'=>h'))
def cA (X:Cx) (scope:Scope) (C:Addr) (x y:Str) (M:List Str) (s₂:Shared) (H₂:Hp) (fp:List Addr):Cx :=
 { X with N:=x::y::M,s₀:=s₂,H₀:=H₂,env:=compEnvC scope (fj X.env scope.names []) C X.env,outer:=X.stack,ex:=fp,fn:=fun _=>false,pn:=[],xe:=fun _ _=>False }
structure jM (X:Cx) (scope:Scope) (x y:Str) (M:List Str):Prop where
 base:cu X scope x M
 Wa:scope.names.lookup y=some .local
 Us:(x::y::M).Nodup
theorem pP {X:Cx}{scope:Scope}{x y:Str}{M:List Str} (h:cu X scope x M) (h1:scope.names.lookup y=some .local) (h2:(x::y::M).Nodup):jM X scope x y M:=⟨h,h1,h2⟩
section
variable {X:Cx}{scope:Scope}{x y:Str}{M:List Str}{pins:List (Addr × Obj)}{σ:St}{H₂:Hp}{s₂:Shared}{elt iter tg:Expr}{ifs:List Expr}{pos:Pos}{te:TE}{wi:TI}{g:TG}{tc:TT}
theorem Hx (K:jM X scope x y M) (I:Inv X pins σ H₂ s₂) {fp:List Addr} (hf:∀ b∈fp,iz X pins H₂ b) (hfl:∀ b∈fp,b<s₂.heap.objs.size) {C:Addr} (hC:s₂.heap.objs.size≤C) {h₁:Heap}{t:Nat}{m:Str→Option Value} (hn:h₁.Ns C m)
   (hk:∀ b o,s₂.heap.get? b=some o→h₁.get? b=some o):Inv (cA X scope C x y M s₂ H₂ fp) [] (none::none::σ) H₂ { s₂ with heap:=h₁,toks:=t }:=by
 have I1:=u0 (t:=t) K.base I hf hfl hC hn hk
 have ok:(cA X scope C x y M s₂ H₂ fp).Ok:=by
   obtain⟨a1,a2,a3,a4,a5,a6,a7,a8,a9,a10,a11,a12,a13,a14,a15,a16,a17,a18⟩:=I1.ok
   exact⟨a1,a2,a3,a4,a5,a6,a7,a8,a9,a10,a11,a12,a13,a14,a15,a16,a17,a18⟩
 obtain⟨m',ns',lo⟩:=I1.loc
 refine⟨ok,I1.os,I1.bare,I1.base,⟨m',ns',fun i z v e1 e2 e3=>?_⟩,I1.cell,I1.free,I1.ie,I1.pin,I1.hok,?_⟩
 · match i,e1,e2 with
   | 0,_,e2=>cases e2
   | 1,_,e2=>cases e2
   | j+2,e1,e2=>exact lo (j+1) z v e1 e2 e3
 · have:=I1.len
   show (none::none::σ).length=(x::y::M).length
   have h2:(none::σ).length=(x::M).length:=this
   simp only [List.length_cons] at h2 ⊢
   omega
def J0 (wi:TI) (g:TG) (tc:TT) (te:TE):TE:=fun σ H Q=>wi σ H fun J H1=>∃ (n:Nat) (W:Nat→List V→Hp→Prop),n≤sizeLine∧W 0 [] H1∧∀ i ys H,i≤n→ys.length≤i→W i ys H →
 (J.stop i H∧∀ p,H p=none→Q (.ref p) (upd H p (.lst ys)))∨(J.go i H∧i<n∧∀ x H',J.Be i H x H'→∀ u v,g x (u::v::σ) H' fun ρ H2=>(∃ u' v',ρ=u'::v'::σ)∧tc ρ H2 fun c H3=>if c=true then te ρ H3 fun z H4=>W (i+1) (ys++[z]) H4 else W (i+1) ys H3)
theorem tQ (K:jM X scope x y M) (hc:X.calm=true) (I:Inv X pins σ H₂ s₂) (hg:∀ (C:Addr) (s₂:Shared) (H₂:Hp) (fp:List Addr),PG (cA X scope C x y M s₂ H₂ fp) tg g) (ht:∀ (C:Addr) (s₂:Shared) (H₂:Hp) (fp:List Addr),wI (cA X scope C x y M s₂ H₂ fp) ifs tc) (he:∀ (C:Addr) (s₂:Shared) (H₂:Hp) (fp:List Addr),PE (cA X scope C x y M s₂ H₂ fp) elt te)
   {it:Addr}{fp:List Addr}{tn:Nat→Heap→Prop}{J:It} (T:Turn X.prog X.w X.K tg J fp it tn) (st:tn 0 s₂.heap) (hf:∀ b∈fp,iz X pins H₂ b) {n:Nat} (hsz:n≤sizeLine) {W:Nat→List V→Hp→Prop}{F:List V→Hp→Prop}
   (w0:W 0 [] H₂) (turn:∀ i ys H,i≤n→ys.length≤i→W i ys H→(J.stop i H∧F ys H)∨(J.go i H∧i<n∧∀ x H',J.Be i H x H'→∀ u v,g x (u::v::σ) H' fun ρ H2=>(∃ u' v',ρ=u'::v'::σ)∧tc ρ H2 fun c H3=>if c=true then te ρ H3 fun z H4=>W (i+1) (ys++[z]) H4 else W (i+1) ys H3))
   {E:Value→Shared→Prop}{RR:Value→Addr→Result→Shared→Prop}
   (hRR:∀ (D C:Addr) (s':Shared) (H':Hp) (ys:List V) (m:Str→Option Value),Inv X pins σ (upd H' D (.lst ys)) s'→H' D=none→iz X pins (upd H' D (.lst ys)) C→s'.heap.Ns C m→F ys H'→RR (.ref D) C (.ok .next) s') :
   wpAny (model X.prog X.w) X.A (newList []) (fun acc s₃=>wpAny (model X.prog X.w) X.A (newFunctionEnv scope X.env.globals (fj X.env scope.names []) [] X.env.qual none .none (some X.env)) (fun cenv s₄ =>
     codeAny (model X.prog X.w) X.A (.compStart (.ListComp elt [⟨tg,iter,ifs,0⟩] scope pos) 0 (.ref it) acc { cenv with scope:=relabel scope X.env }) (RR acc cenv.locals) s₄) E s₃) E s₂:=by
 refine wpAny_newObj_type (wpAny_newFunctionEnv K.base.cell (by intro y hy;simp at hy) (fun h₁ hns₁ hsb₁=>?_) K.base.kind)
 dsimp only at hns₁ hsb₁ ⊢
 generalize hH2:s₂.heap.push { cls:=.type "list",dict:=none,data:=.seq ([]:List Value).toArray } = H2 at hns₁ hsb₁ ⊢
 have hC:H2.objs.size=s₂.heap.objs.size+1:=by rw [← hH2,Heap.size_push]
 have hDC:s₂.heap.objs.size≠H2.objs.size:=by rw [hC];exact Nat.ne_of_lt (Nat.lt_succ_self _)
 have below:∀ b,b<s₂.heap.objs.size→b≠H2.objs.size∧b≠s₂.heap.objs.size:=fun b hb=>⟨by rw [hC];exact Nat.ne_of_lt (Nat.lt_succ_of_lt hb),Nat.ne_of_lt hb⟩
 have hfl:∀ b∈fp,b<s₂.heap.objs.size:=fun b hb=>by obtain⟨o,e,_⟩:=T.obj _ _ st b hb;exact Heap.lt_size e
 have old:∀ b o,s₂.heap.get? b=some o→h₁.get? b=some o:=fun b o e=>hsb₁.extBut b o (below b (Heap.lt_size e)).1 (Heap.get?_push_of_some _ (hH2 ▸ Heap.get?_push_of_some _ e))
 have hacc:h₁.get? s₂.heap.objs.size=some { cls:=.type "list",data:=.seq ([]:List Value).toArray 0 }:=hsb₁.extBut _ _ hDC (Heap.get?_push_of_some _ (hH2 ▸ Heap.get?_push_size _ rfl))
 generalize hCC:H2.objs.size=C at *
 generalize pJ:s₂.heap.objs.size=D at *
 have hCle:s₂.heap.objs.size≤C:=by rw [pJ,hC];exact Nat.le_succ _
 have st₁:tn 0 h₁:=T.keep _ _ _ st fun b _ o e=>old b o e
 have I₁:=Hx (t:=s₂.toks+([]:List (Str × Value)).length) K I hf (fun b hb=>by rw [pJ];exact hfl b hb) hCle hns₁ old
 generalize hX':cA X scope C x y M s₂ H₂ fp=X' at I₁
 have eX:X'.prog=X.prog∧X'.w=X.w∧X'.K=X.K∧X'.calm=true∧X'.A=X.A∧X'.ex=fp∧X'.env=compEnvC scope (fj X.env scope.names []) C X.env∧X'.s₀=s₂∧X'.pn=[]:=by
   subst hX';exact⟨rfl,rfl,rfl,hc,rfl,rfl,rfl,rfl,rfl⟩
 obtain⟨eP,ew,eK,ec,eA,V2,ud,PJ,Jw⟩:=eX
 have eL:X'.env.locals=C:=by rw [ud];rfl
 have cells':∀ y c,X'.env.cells.lookup y=some c→X.env.cells.lookup y=some c:=fun y c e=>by rw [ud] at e;exact cu.pI e
 have V3:X'.fs=frs X.stack:=by subst hX';rfl
 have qC:∀ b∈X'.fs,b=X.env.locals∨b∈X.fs:=fun b hb=>List.mem_cons.mp (I.rD b (by rw [← V3];exact hb))
 have vd:∀ {pn:List (Addr × Obj)}{H':Hp},(∀ p∈pn,p.1=D)→(∀ b∈fp,H' b=none)→∀ b∈fp,iz X' pn H' b:=fun {pn H'} hp hn b hb=>by
   refine⟨hn b hb,?_,fun z=>?_,.inl (by rw [V2];exact hb),fun y c e=>(hf b hb).2.2.2.2.1 y c (cells' y c e),fun p hq=>?_⟩
   · rw [eL];exact (below b (hfl b hb)).1
   · rcases qC b z with q | q
     · exact (hf b hb).2.1 q
     · exact (hf b hb).2.2.1 q
   · rw [Jw,List.nil_append] at hq
     rw [hp p hq];exact Ne.symm (below b (hfl b hb)).2
 have V4:D∉fp:=fun z=>Nat.lt_irrefl _ (hfl D z)
 have Bp:X.env.locals<D:=by have:=I.lt;rw [pJ] at this;exact this
 have Jx:∀ b∈X.fs,b<D:=fun b hb=>Nat.lt_of_not_le fun z=>I.Mv (a:=b) (by rw [pJ];exact z) hb
 have Bq:∀ {b:Addr}{pn:List (Addr × Obj)}{H':Hp},D≤b→b≠C→H' b=none→(∀ p∈pn,p.1≠b)→iz X' pn H' b:=fun {b pn H'} hb hbC hn hp=>by
   refine⟨hn,by rw [eL];exact hbC,fun z=>?_,.inr (by rw [PJ,pJ];exact hb),fun y c e=>?_,fun p hq=>?_⟩
   · rcases qC b z with q | q
     · rw [q] at hb;exact absurd (Nat.lt_of_lt_of_le Bp hb) (Nat.lt_irrefl _)
     · exact absurd (Nat.lt_of_lt_of_le (Jx b q) hb) (Nat.lt_irrefl _)
   · obtain⟨v,o,ho,_⟩:=I.cell y c (cells' y c e)
     have:=Heap.lt_size ho
     rw [pJ] at this
     exact Nat.ne_of_lt (Nat.lt_of_lt_of_le this hb)
   · rw [Jw,List.nil_append] at hq
     exact hp p hq
 have outer:∀ {σ':St}{H':Hp}{s':Shared}{pn:List (Addr × Obj)},Inv X' pn σ' H' s'→Inv X pins σ H' s':=fun {σ' H' s' pn} J'=>by
   subst hX'
   refine I.call' (ch:=fp) J'.os J'.base J'.hok J'.bare fun b hb=>?_
   obtain⟨f0,f1,f2,f3,f4,f5⟩:=hf b hb
   exact⟨f3,f1,f4,f5⟩
 have tO:∀ {b:Addr}{H':Hp},D≤b→H' b=none→iz X pins H' b:=fun {b H'} hb hn=>by
   have q:=I.yj (H':=H') (b:=b) (by rw [pJ];exact hb) hn
   exact q
 have loop:∀ s₃:Shared,s₃={ s₂ with heap:=h₁,toks:=s₂.toks+([]:List (Str × Value)).length } →
     codeAny (model X.prog X.w) X.A (.compLoop (.ListComp elt [⟨tg,iter,ifs,0⟩] scope pos) 0 (.ref it) (.ref D) (compEnvC scope (fj X.env scope.names []) C X.env)) (RR (.ref D) C) s₃:=by
   rintro s₃ rfl
   refine qH (fun k s'=>∃ (i:Nat) (ys:List V) (its:List Value) (σ0 σ1:Option V) (H':Hp),i≤n∧k=n+1 - i∧ys.length≤i∧Inv X' [] (σ0::σ1::σ) H' s'∧tn i s'.heap∧(∀ b∈fp,H' b=none)∧H' D=none∧Vals ys its ∧
     (∃ c,s'.heap.get? D=some { cls:=.type "list",data:=.seq its.toArray c })∧W i ys H') ?_ (n+1) ⟨0,[],[],none,none,H₂,Nat.zero_le _,rfl,Nat.le_refl _,I₁,st₁,fun b hb=>(hf b hb).1,by rw [← pJ];exact I.hok.fresh (Nat.le_refl _),.nil,⟨0,hacc⟩,w0⟩
   rintro k s' ⟨i,ys,its,σ0,σ1,H',hi,rfl,hyl,I',st',fr',hD',rv,⟨c,hobj⟩,w'⟩
   rcases turn i ys H' hi hyl w' with ⟨stop,fin⟩ | ⟨go,hlt,step⟩
   · have vf:Inv X' [(D,{ cls:=.type "list",data:=.seq its.toArray c })] (σ0::σ1::σ) H' s':=I'.dY fun p hp=>by
       obtain rfl:p=(D,{ cls:=.type "list",data:=.seq its.toArray c }):=by simpa using hp
       refine⟨hobj,hD',?_,?_,fun v z=>nomatch z⟩
       · rw [eL];exact hDC
       · intro z
         rcases qC D z with q | q
         · rw [q] at Bp;exact Nat.lt_irrefl _ Bp
         · exact Nat.lt_irrefl _ (Jx D q)
     have q:=T.done X' eP ew eK ec i _ s' (σ0::σ1::σ) H' (notedBy (model X.prog X.w) X.A (compEnvC scope (fj X.env scope.names []) C X.env) fun e s'=>RR (.ref D) C (.error e) s') vf (vd (fun p hp=>by obtain rfl:p=(D,{ cls:=.type "list",data:=.seq its.toArray c }):=(by simpa using hp);rfl) fr') st' stop
     rw [eA] at q
     refine wpAny_mono q (fun r s4 ⟨hr,I4⟩=>?_) fun _ _ z=>z
     subst hr
     obtain⟨e4,n4,_⟩:=I4.pin (D,{ cls:=.type "list",data:=.seq its.toArray c }) (List.mem_append_right _ (by simp))
     have O4:=outer I4
     obtain⟨m4,PK,_⟩:=I4.loc
     rw [eL] at PK
     refine hRR D C s4 H' ys m4 (O4.track (tO (Nat.le_refl _) n4) (Nat.le_trans I.sz (by rw [pJ];exact Nat.le_refl _)) ⟨Nat.le_trans hyl (Nat.le_trans hi hsz),its,c,rv,e4⟩) n4 (tO (by rw [hC];exact Nat.le_succ _) ?_) PK fin
     rw [zG (Ne.symm hDC)]
     have:=I4.free
     rw [eL] at this
     exact this
   · have vf:Inv X' [(D,{ cls:=.type "list",data:=.seq its.toArray c })] (σ0::σ1::σ) H' s':=I'.dY fun p hp=>by
       obtain rfl:p=(D,{ cls:=.type "list",data:=.seq its.toArray c }):=by simpa using hp
       refine⟨hobj,hD',?_,?_,fun v z=>nomatch z⟩
       · rw [eL];exact hDC
       · intro z
         rcases qC D z with q | q
         · rw [q] at Bp;exact Nat.lt_irrefl _ Bp
         · exact Nat.lt_irrefl _ (Jx D q)
     have pd:∀ p∈[(D,({ cls:=.type "list",data:=.seq its.toArray c }:Obj))],p.1=D:=fun p hp=>by obtain rfl:p=(D,{ cls:=.type "list",data:=.seq its.toArray c }):=(by simpa using hp);rfl
     have q:=T.item X' eP ew eK ec i _ s' (σ0::σ1::σ) H' (notedBy (model X.prog X.w) X.A (compEnvC scope (fj X.env scope.names []) C X.env) fun e s'=>RR (.ref D) C (.error e) s') vf (vd pd fr') st' go
     rw [eA] at q
     refine wpAny_mono q (fun r s4 ⟨u,hr,h4⟩=>?_) fun _ _ z=>z
     subst hr
     refine wpAny_mono h4 (fun _ s5 ⟨xv,H5,I5,r5,y5,yl,QM⟩=>?_) fun _ _ z=>z
     have QQ:=I5.pinned (vd pd QM) (T.obj _ _ yl)
     rw [← ud]
     have g6:=step xv H5 y5 σ0 σ1
     have q6:=(hg C s₂ H₂ fp) (([(D,({ cls:=.type "list",data:=.seq its.toArray c }:Obj))])++kZ fp s5.heap) s5 (σ0::σ1::σ) H5 xv u _ (by rw [hX'];exact QQ) r5 g6
     rw [hX',eP,ew,eA] at q6
     refine wpAny_mono q6 (fun _ s6 ⟨ρ,H6,I6,⟨u',v',eρ⟩,t6⟩=>?_) (fun _ _ z=>by subst hX';exact (show False from z).elim)
     subst eρ
     have q7:=(ht C s₂ H₂ fp) _ s6 (u'::v'::σ) H6 _ (by rw [hX'];exact I6) t6
     rw [hX',eP,ew,eA] at q7
     refine wpAny_mono q7 (fun ok s7 ⟨H7,I7,w7⟩=>?_) (fun _ _ z=>by subst hX';exact (show False from z).elim)
     have Wb:∀ {s8:Shared}{H8:Hp}{pn:List (Addr × Obj)},Inv X' (pn++(([(D,({ cls:=.type "list",data:=.seq its.toArray c }:Obj))])++kZ fp s5.heap)) (u'::v'::σ) H8 s8→True:=fun _=>trivial
     cases ok with
     | false =>
       obtain⟨e7,n7,_⟩:=I7.pin (D,{ cls:=.type "list",data:=.seq its.toArray c }) (List.mem_append_right _ (List.mem_append_left _ (by simp)))
       refine⟨n+1 - (i+1),by omega,i+1,ys,its,u',v',H7,hlt,rfl,Nat.le_succ_of_le hyl,I7.dY (uP:=[]) fun p hp=>absurd hp (by simp),?_,fun b hb=>?_,n7,rv,⟨c,e7⟩,w7⟩
       · refine T.keep _ _ _ yl fun b hb o e=>?_
         exact (I7.pin (b,o) (List.mem_append_right _ (List.mem_append_right _ (yK hb e)))).1
       · obtain⟨o,e,d⟩:=T.obj _ _ yl b hb
         exact (I7.pin (b,o) (List.mem_append_right _ (List.mem_append_right _ (yK hb e)))).2.1
     | true =>
       have q8:=(he C s₂ H₂ fp) _ s7 (u'::v'::σ) H7 (fun z Ay=>W (i+1) (ys++[z]) Ay) (by rw [hX'];exact I7) w7
       rw [hX',eP,ew,eA] at q8
       refine wpAny_mono q8 (fun u8 s8 ⟨v8,H8,I8,r8,w8⟩=>?_) (fun _ _ z=>by subst hX';exact (show False from z).elim)
       obtain⟨e7,n7,_⟩:=I8.pin (D,{ cls:=.type "list",data:=.seq its.toArray c }) (List.mem_append_right _ (List.mem_append_left _ (by simp)))
       refine append_at (hsz:=by rw [List.size_toArray,← rv.length];exact Nat.le_trans hyl (Nat.le_trans hi hsz)) e7 fun h8 PL g8=>?_
       have I9:Inv X' [] (u'::v'::σ) H8 { s8 with heap:=h8,toks:=s8.toks }:=(I8.dY (uP:=[]) fun p hp=>absurd hp (by simp)).turned (t':=s8.toks) (it:=D) (fun b o hb e=>(PL.2 b hb).trans e) n7 (by rw [eL];exact hDC) (.inr (by rw [PJ,pJ];exact Nat.le_refl _))
         (Bq (H':=H8) (pn:=[]) (Nat.le_refl _) hDC n7 (fun p hp=>absurd hp (by simp))).2.2.2.2.1 (fun p hp=>by rw [Jw] at hp;exact absurd hp (by simp))
       refine⟨n+1 - (i+1),by omega,i+1,ys++[v8],its++[u8],u',v',H8,hlt,rfl,by rw [List.length_append,List.length_singleton];omega,I9,?_,fun b hb=>?_,n7,rv.append (.cons r8 .nil),⟨c+1,?_⟩,w8⟩
       · refine T.keep _ _ _ yl fun b hb o e=>?_
         have e':=(I8.pin (b,o) (List.mem_append_right _ (List.mem_append_right _ (yK hb e)))).1
         exact (PL.2 b (fun z=>V4 (z ▸ hb))).trans e'
       · obtain⟨o,e,d⟩:=T.obj _ _ yl b hb
         exact (I8.pin (b,o) (List.mem_append_right _ (List.mem_append_right _ (yK hb e)))).2.1
       · rw [g8,List.push_toArray]
 exact codeAny_compStart_list (loop _ rfl) (T.self X.A 0 _ _ _ st₁ (loop _ rfl))
theorem J1 (K:jM X scope x y M) (hc:X.calm=true) (hi:PI X tg iter wi) (hg:∀ (C:Addr) (s₂:Shared) (H₂:Hp) (fp:List Addr),PG (cA X scope C x y M s₂ H₂ fp) tg g) (ht:∀ (C:Addr) (s₂:Shared) (H₂:Hp) (fp:List Addr),wI (cA X scope C x y M s₂ H₂ fp) ifs tc) (he:∀ (C:Addr) (s₂:Shared) (H₂:Hp) (fp:List Addr),PE (cA X scope C x y M s₂ H₂ fp) elt te)
   (hs:∀ x,foldedSetIterable iter X.env x=pure x:=by intro _;rfl):PE X (.ListComp elt [⟨tg,iter,ifs,0⟩] scope pos) (J0 wi g tc te):=by
 intro pins s σ H Q I h
 rw [eval_ListComp]
 refine wpAny_comprehension_free (use:=none) rfl hs (K.base.closure I.ok) K.base.kind K.base.names (dh (hi pins s σ H _ I h) fun v s1 h1=>dh h1 fun itv s2 h2=>?_)
 obtain⟨it,fp,tn,J,H2,e,I2,T,st2,f2,n,W,hsz,w0,turn⟩:=h2
 subst e
 refine tQ (RR:=fun acc C=>compPost (model X.prog X.w) X.A X.xe none (EP X pins σ Q) acc C) K hc I2 hg ht he T st2 f2 hsz (F:=fun ys H=>∀ p,H p=none→Q (.ref p) (upd H p (.lst ys))) w0 turn ?_
 intro D C s' H' ys m I' n' fC ns fin
 refine⟨m,ns,fun h' sb=>?_⟩
 obtain⟨f0,f1,f2,f3,f4,f5⟩:=fC
 exact⟨.ref D,_,I'.turned (t':=s'.toks) (it:=C) (fun b o hb e=>(sb.2 b hb).trans e) f0 f1 f3 f4 f5,rfl,fin D n'⟩
end
end L2
namespace L2
open PySem PySem.Spec PyProof.Rows PySem.Calls
section
variable {X:Cx}{scope:Scope}{x y:Str}{M:List Str}{elt iter:Expr}{ifs:List Expr}{pos p1 p2 p3:Pos}{kk:Nat}{te:TE}{wi:TI}{tc:TT}
structure J2 (K:PySem.W.Frag) (J:It) (tc:TT) (te:TE) (σ:St) (H1:Hp) (Q:VK):Prop where
 ex:∃ (n:Nat) (W:Nat→List V→Hp→Prop),n≤sizeLine∧W 0 [] H1∧∀ i ys H,i≤n→ys.length≤i→W i ys H →
   (J.stop i H∧∀ p,H p=none→Q (.ref p) (upd H p (.lst ys)))∨(J.go i H∧i<n∧∀ z H',J.Be i H z H'→∃ (p:Addr) (a b:V),z=.ref p∧gf K H' p [a,b]∧tc (some a::some b::σ) H' fun c H3=>if c=true then te (some a::some b::σ) H3 fun z H4=>W (i+1) (ys++[z]) H4 else W (i+1) ys H3)
def J3 (K:PySem.W.Frag) (wi:TI) (tc:TT) (te:TE):TE:=fun σ H Q=>wi σ H fun J H1=>J2 K J tc te σ H1 Q
theorem J4 (K:jM X scope x y M) (hc:X.calm=true) {C:Addr}{s₂:Shared}{H₂:Hp}{fp:List Addr}:PG (cA X scope C x y M s₂ H₂ fp) (.Tuple [.Name x p1,.Name y p2] kk p3) (Vw X.K 2 (IV (bB 0) (IV (bB 1) Vv))) :=
 kY (X:=cA X scope C x y M s₂ H₂ fp) hc (yA (zQ K.Us rfl (.inl (lookup_relabel_local K.base.loc)) (.inr (lookup_relabel_local K.base.loc))) (yA (zQ K.Us rfl (.inl (lookup_relabel_local K.Wa)) (.inr (lookup_relabel_local K.Wa))) iW))
theorem BP (K:jM X scope x y M) (hc:X.calm=true) (hi:PI X (.Tuple [.Name x p1,.Name y p2] kk p3) iter wi) (ht:∀ (C:Addr) (s₂:Shared) (H₂:Hp) (fp:List Addr),wI (cA X scope C x y M s₂ H₂ fp) ifs tc) (he:∀ (C:Addr) (s₂:Shared) (H₂:Hp) (fp:List Addr),PE (cA X scope C x y M s₂ H₂ fp) elt te)
   (hs:∀ x,foldedSetIterable iter X.env x=pure x:=by intro _;rfl):PE X (.ListComp elt [⟨.Tuple [.Name x p1,.Name y p2] kk p3,iter,ifs,0⟩] scope pos) (J3 X.K wi tc te):=by
 intro pins s σ H Q I h
 have q:=J1 (pos:=pos) K hc (wi:=fun σ0 H0 R0=>∃ R,wi σ0 H0 R∧∀ J H1,R J H1→R0 J H1) (qD hi fun σ H R ⟨R1,a,b⟩=>⟨R1,a,b⟩) (fun C s₂ H₂ fp=>J4 (p1:=p1) (p2:=p2) (p3:=p3) (kk:=kk) K hc) ht he hs pins s σ H Q I
 refine q ⟨_,h,fun J H1 r=>?_⟩
 obtain⟨n,W,h1,h2,h3⟩:=r.ex
 refine⟨n,W,h1,h2,fun i ys H' hi hy hw=>?_⟩
 rcases h3 i ys H' hi hy hw with hq | ⟨g1,g2,g3⟩
 · exact .inl hq
 · refine .inr ⟨g1,g2,fun z H2 hz u v=>?_⟩
   obtain⟨p,a,b,e,hq,t⟩:=g3 z H2 hz
   exact⟨p,[a,b],e,hq,rfl,a,[b],rfl,b,[],rfl,rfl,⟨_,_,rfl⟩,t⟩
end
theorem pQ {K:PySem.W.Frag}{a:Addr}{xs:List V}{tc:TT}{te:TE}{σ:St}{H:Hp}{Q:VK} (hz:xs.length≤sizeLine) (W:Nat→List V→Hp→Prop) (h0:W 0 [] H) (hq:∀ i ys H,W i ys H→bQ K H a xs)
   (hs:∀ i x ys H,xs[i]? = some x→ys.length≤i→W i ys H→∃ (p:Addr) (u v:V),x=.ref p∧gf K H p [u,v]∧tc (some u::some v::σ) H fun c H3=>if c=true then te (some u::some v::σ) H3 fun z H4=>W (i+1) (ys++[z]) H4 else W (i+1) ys H3)
   (hd:∀ ys H,W xs.length ys H→∀ p,H p=none→Q (.ref p) (upd H p (.lst ys))):J2 K (Jb K a) tc te σ H Q:=by
 refine⟨xs.length,W,hz,h0,fun i ys H hi hl hw=>?_⟩
 have q:=hq i ys H hw
 by_cases hlt:i<xs.length
 · refine .inr ⟨⟨xs,xs[i],q,by simp [hlt]⟩,hlt,fun v H' y=>?_⟩
   obtain⟨e,y⟩:=y
   subst e
   exact hs i v ys _ (y xs q) hl hw
 · have e:i=xs.length:=by omega
   subst e
   exact .inl ⟨⟨xs,q,Nat.le_refl _⟩,hd ys H hw⟩
section
variable {prog:Program}{w:World}{A:Around}{E:Value→Shared→Prop}{s:Shared}
end
section
variable {X:Cx}
end
section
variable {X:Cx}{tg:Expr}
end
theorem Hy {X:Cx}{H:Hp}{n:Nat}{p q:Addr}{xs ys:List V} (h:gf X.K H p xs) (k:gf X.K H q ys) (fx:xs.all dD=true) (fy:ys.all dD=true) (hxy:BK xs ys=true→xs=ys):Ht X H (n+1) (.ref p) (.ref q) (BK xs ys):=by
 by_cases hpq:p=q
 · subst hpq
   intro pins s σ u v A I ru rv hu
   have e2:=I.Hb h k
   subst e2
   rw [vo fx]
   exact JS (n:=n+1) pins s σ u v A I ru rv hu
 · exact JT hpq (Hu (n:=n) h k fx fy)
end L2
namespace L2
open PySem PySem.Spec PyProof.Rows PySem.Calls
end L2
namespace L2
open PySem PySem.Spec PyProof.Rows PySem.Calls
end L2
namespace L2
open PySem PySem.Spec PyProof.Rows PySem.Calls
open PySem.W (tabObj CodeHd kla_obj kla_fn)
def m5 (c:Addr) (v:V):HO:=.ext fun h=>∃ u,RelV v u∧h.IsCell c (some u)
def BR (c:Addr) (q:Str):HO:=.ext fun h=>h.CodeRec (.ref c) q
def Fz (H:Hp) (b:Addr) (u:HO):Prop:=∃ o,H b=some (.ji o u)
structure iC where
 qual:Str
 params:Arguments
 body:Expr
 scope:Scope
 x:Str
 ys:List Str
structure iC.Ok (D:iC):Prop where
 kind:D.scope.kind=.function
 co:D.scope.isCoroutine=false
 gen:D.scope.isGenerator=false
 names:D.scope.names=(D.x,.local)::D.ys.reverse.map fun y=>(y,.free)
 nd:(D.x::D.ys).Nodup
 bind:∀ (cs:List (Str × Addr)) (pm cdv ct u:Value),bindArgs (kla_fn "<lambda>" D.qual D.params D.body D.scope cs pm cdv ct) ⟨[u],[]⟩=pure [(D.x,u)]
def Hz (D:iC) (p:Addr) (cs:List (Str × Addr)) (c':Addr):HO:=.ext fun h=>∃ pm ctv,h.get? p=some (kla_obj "<lambda>" D.qual D.params D.body D.scope cs pm c' ctv)
structure yc (D:iC) (H:Hp) (p:Addr) (cs:List (Str × Addr)) (vs:List V):Prop where
 code:∃ c',H p=some (Hz D p cs c')∧Fz H c' (BR c' D.qual)
 ys:cs.map (·.1)=D.ys
 nd:(cs.map (·.2)).Nodup
 cells:Paired (fun (y:Str × Addr) v=>Fz H y.2 (m5 y.2 v)) cs vs
theorem IsCell.one {h1 h2:Heap}{c:Addr}{v:Option Value} (x:h1.IsCell c v) (k:∀ o,h1.get? c=some o→h2.get? c=some o):h2.IsCell c v:=by
 obtain⟨o,ho,hd⟩:=x
 exact⟨o,k o ho,hd⟩
theorem BV {P:Program}{w:World}{H:Hp}{h:Heap}{c:Addr}{v:V}{u:Value} (r:RelV v u) (x:h.IsCell c (some u)):bC P w H h c (m5 c v):=by
 obtain⟨o,ho,hd⟩:=x
 refine⟨⟨u,r,o,ho,hd⟩,⟨o,ho⟩,fun h1 h2 y k=>?_⟩
 obtain⟨u,r,x⟩:=y
 exact⟨u,r,IsCell.one x k⟩
theorem J5 {P:Program}{w:World}{H:Hp}{h:Heap}{c:Addr}{q:Str} (x:h.CodeRec (.ref c) q):bC P w H h c (BR c q):=by
 refine⟨x,?_,fun h1 h2 x k=>?_⟩
 · obtain⟨c',o,vs,t,e,g,r⟩:=x
   cases e
   exact⟨o,g⟩
 · obtain⟨c',o,vs,t,e,g,r⟩:=x
   cases e
   exact⟨c,o,vs,t,rfl,k o g,r⟩
theorem Np {P:Program}{w:World}{H:Hp}{h:Heap}{D:iC}{p c':Addr}{cs:List (Str × Addr)}{pm ctv:Value} (x:h.get? p=some (kla_obj "<lambda>" D.qual D.params D.body D.scope cs pm c' ctv)):bC P w H h p (Hz D p cs c'):=by
 refine⟨⟨pm,ctv,x⟩,⟨_,x⟩,fun h1 h2 y k=>?_⟩
 obtain⟨pm,ctv,x⟩:=y
 exact⟨pm,ctv,k _ x⟩
def dels (H:Hp) (ca:List Addr):Hp:=fun b=>if b∈ca then none else H b
def back (H:Hp) (ca:List Addr) (H1:Hp):Hp:=fun b=>if b∈ca then H b else H1 b
theorem qI {H:Hp}{ca:List Addr}{b:Addr} (h:b∈ca):dels H ca b=none:=if_pos h
theorem xD {H:Hp}{ca:List Addr}{b:Addr} (h:b∉ca):dels H ca b=H b:=if_neg h
theorem back_in {H H1:Hp}{ca:List Addr}{b:Addr} (h:b∈ca):back H ca H1 b=H b:=if_pos h
theorem ik {H H1:Hp}{ca:List Addr}{b:Addr} (h:b∉ca):back H ca H1 b=H1 b:=if_neg h
theorem jg {H:Hp}{ca:List Addr}{b:Addr} (h:H b=none):dels H ca b=none:=by
 by_cases e:b∈ca
 · exact qI e
 · rw [xD e];exact h
theorem aD.back {H H1:Hp}{ca:List Addr} (e:aD (dels H ca) H1):aD H (back H ca H1):=fun b u q=>by
 by_cases z:b∈ca
 · rw [back_in z];exact q
 · rw [ik z];exact e b u (by rw [xD z];exact q)
theorem mW.dels {P:Program}{w:World}{H:Hp}{h:Heap}{ca:List Addr} (x:mW P w H h) (f:∀ c∈ca,∃ u,Fz H c u):mW P w (dels H ca) h:=fun b o e=>by
 by_cases hb:b∈ca
 · rw [qI hb] at e;cases e
 · rw [xD hb] at e
   refine (x b o e).stay (fun _ _ _ q=>q) (fun d q=>?_) fun d xs q=>?_
   · rw [xD fun z=>?_];exact q
     obtain⟨u,o,z⟩:=f d z
     rw [q] at z;cases z
   · rw [xD fun z=>?_];exact q
     obtain⟨u,o,z⟩:=f d z
     rw [q] at z;cases z
theorem HB {F:Str × Addr→V→Prop}{cs:List (Str × Addr)}{vs:List V} (h:Paired F cs vs):(cs.map (·.1)).Nodup→∀ {i:Nat}{y:Str}{v:V},(cs.map (·.1))[i]? = some y→vs[i]? = some v→∃ c,cs.lookup y=some c∧F (y,c) v:=by
 induction h with
 | nil=>intro _ i y v e;simp at e
 | @cons a b la lb r t ih =>
   intro nd i y v e1 e2
   obtain⟨a1,a2⟩:=a
   cases i with
   | zero =>
     simp at e1 e2
     subst e1;subst e2
     exact⟨a2,by rw [List.lookup_cons,beq_self_eq_true],r⟩
   | succ i =>
     simp only [List.map_cons,List.getElem?_cons_succ] at e1 e2
     have tR:=List.nodup_cons.mp nd
     obtain⟨c,q1,q2⟩:=ih tR.2 e1 e2
     refine⟨c,?_,q2⟩
     have ne:(y == a1)=false:=beq_eq_false_iff_ne.mpr fun z=>tR.1 (by subst z;exact List.mem_of_getElem? e1)
     rw [List.lookup_cons,ne]
     exact q1
theorem m6 {α β:Type}{F:α→β→Prop}{cs:List α}{vs:List β} (h:Paired F cs vs):∀ a∈cs,∃ v∈vs,F a v:=by
 induction h with
 | nil=>intro a z;cases z
 | cons r t ih =>
   intro a z
   rcases List.mem_cons.mp z with rfl | z
   · exact⟨_,List.mem_cons_self,r⟩
   · obtain⟨v,q,f⟩:=ih a z
     exact⟨v,List.mem_cons_of_mem _ q,f⟩
theorem Nq {cs:List (Str × Addr)} (nd:(cs.map (·.2)).Nodup) {x y:Str}{c:Addr} (h1:(x,c)∈cs) (h2:(y,c)∈cs):x=y:=by
 induction cs with
 | nil=>cases h1
 | cons a l ih =>
   have tR:=List.nodup_cons.mp nd
   rcases List.mem_cons.mp h1 with e1 | e1 <;> rcases List.mem_cons.mp h2 with e2 | e2
   · rw [← e1] at e2;cases e2;rfl
   · exact absurd (List.mem_map_of_mem (f:=(·.2)) e2) (by rw [← e1] at tR;exact tR.1)
   · exact absurd (List.mem_map_of_mem (f:=(·.2)) e1) (by rw [← e2] at tR;exact tR.1)
   · exact ih tR.2 e1 e2
theorem Gv {cs:List (Str × Addr)} (nd:(cs.map (·.1)).Nodup) {x:Str}{c d:Addr} (h1:(x,c)∈cs) (h2:(x,d)∈cs):c=d:=by
 induction cs with
 | nil=>cases h1
 | cons a l ih =>
   have tR:=List.nodup_cons.mp nd
   rcases List.mem_cons.mp h1 with e1 | e1 <;> rcases List.mem_cons.mp h2 with e2 | e2
   · rw [← e1] at e2;cases e2;rfl
   · exact absurd (List.mem_map_of_mem (f:=(·.1)) e2) (by rw [← e1] at tR;exact tR.1)
   · exact absurd (List.mem_map_of_mem (f:=(·.1)) e1) (by rw [← e2] at tR;exact tR.1)
   · exact ih tR.2 e1 e2
def vy (CX:wC) (P:Program) (w:World) (K:PySem.W.Frag) (mg:Str→Option Value) (base:Heap) (D:iC) (p:Addr) (cs:List (Str × Addr)) (cd:Value) (A:Around) (outer:List Env) (s:Shared) (H:Hp) (E:XK):Cx where
 prog:=P
 w:=w
 K:=K
 mg:=mg
 base:=base
 A:=A.deeper (PySem.W.envX D.qual D.scope s.heap.objs.size p cd cs)
 N:=D.x::D.ys
 s₀:=s
 H₀:=dels H (cs.map (·.2))
 env:=PySem.W.envX D.qual D.scope s.heap.objs.size p cd cs
 outer:=outer
 stack:=PySem.W.envX D.qual D.scope s.heap.objs.size p cd cs::outer
 ex:=[]
 calm:=true
 fn:=fun _=>false
 pn:=[]
 xe:=fun e s'=>wpAny (model P w) (A.deeper (PySem.W.envX D.qual D.scope s.heap.objs.size p cd cs)) (leaving (PySem.W.envX D.qual D.scope s.heap.objs.size p cd cs) e) (fun _ s''=>CX outer H s E e s'') (fun e' s''=>CX outer H s E e' s'') s'
theorem iC.Ok.lx {D:iC} (O:D.Ok):D.scope.names.lookup D.x=some .local:=by rw [O.names,List.lookup_cons,beq_self_eq_true]
theorem Qa:∀ {l:List Str}{y:Str}{k:NameKind},(l.map fun y=>(y,NameKind.free)).lookup y=some k→y∈l∧k=.free
 | [],_,_,h=>by cases h
 | a::l,y,k,h=>by
   rw [List.map_cons,List.lookup_cons] at h
   cases e:y == a with
   | true=>rw [e] at h;cases h;exact⟨by rw [eq_of_beq e];exact List.mem_cons_self,rfl⟩
   | false=>rw [e] at h;obtain⟨p,q⟩:=Qa h;exact⟨List.mem_cons_of_mem _ p,q⟩
theorem J6:∀ {l:List Str}{y:Str},y∈l→(l.map fun y=>(y,NameKind.free)).lookup y=some .free
 | [],_,h=>by cases h
 | a::l,y,h=>by
   rw [List.map_cons,List.lookup_cons]
   cases e:y == a with
   | true=>rfl
   | false =>
     rcases List.mem_cons.mp h with rfl | h
     · rw [beq_self_eq_true] at e;cases e
     · exact J6 h
theorem iC.Ok.of {D:iC} (O:D.Ok) {x:Str}{k:NameKind} (h:D.scope.names.lookup x=some k):(x=D.x∧k=.local)∨(x∈D.ys∧k=.free):=by
 rw [O.names,List.lookup_cons] at h
 cases e:x == D.x with
 | true=>rw [e] at h;cases h;exact .inl ⟨eq_of_beq e,rfl⟩
 | false =>
   rw [e] at h
   obtain⟨p,q⟩:=Qa h
   exact .inr ⟨List.mem_reverse.mp p,q⟩
theorem iC.Ok.ly {D:iC} (O:D.Ok) {y:Str} (h:y∈D.ys):D.scope.names.lookup y=some .free:=by
 have ne:(y == D.x)=false:=beq_eq_false_iff_ne.mpr fun z=>(List.nodup_cons.mp O.nd).1 (by rw [← z];exact h)
 rw [O.names,List.lookup_cons,ne]
 exact J6 (List.mem_reverse.mpr h)
theorem rM {cs:List (Str × Addr)}{y:Str} (h:y∈cs.map (·.1)):∃ c,cs.lookup y=some c:=by
 induction cs with
 | nil=>cases h
 | cons a l ih =>
   obtain⟨a1,a2⟩:=a
   rw [List.lookup_cons]
   cases e:y == a1 with
   | true=>exact⟨a2,rfl⟩
   | false =>
     rcases List.mem_cons.mp h with rfl | h
     · rw [beq_self_eq_true] at e;cases e
     · exact ih h
theorem Nr {CX:wC}{P:Program}{w:World}{K:PySem.W.Frag}{mg:Str→Option Value}{base:Heap}{D:iC}{p:Addr}{cs:List (Str × Addr)}{cd:Value}{A:Around}{outer:List Env}{s:Shared}{h1:Heap}{tk:Tok}{H:Hp}{E:XK}{u:Value}{v:V}{vs:List V}{m:Str→Option Value}
   (O:D.Ok) (hd:A.handled=none) (e0:qx P w K mg base A outer s H) (L:yc D H p cs vs) (r:RelV v u)
   (hn:h1.Ns s.heap.objs.size m) (hm:m D.x=some u) (hk:∀ b o,s.heap.get? b=some o→h1.get? b=some o) :
   Inv (vy CX P w K mg base D p cs cd A outer s H E) [] (some v::vs.map some) (dels H (cs.map (·.2))) { s with heap:=h1,toks:=tk }:=by
 have MK:∀ b:Addr,b∉(vy CX P w K mg base D p cs cd A outer s H E).ex:=fun b z=>absurd (show b∈([]:List Addr) from z) (by simp)
 have cell:∀ {y:Str}{c:Addr}{v:V},Fz H c (m5 c v)→∃ uc,RelV v uc∧s.heap.IsCell c (some uc):=fun {y c v} f=>by
   obtain⟨o,e⟩:=f
   exact (e0.hok _ _ e).2.1
 have fz:∀ c∈cs.map (·.2),∃ u,Fz H c u:=fun c hc=>by
   obtain⟨q,hq,rfl⟩:=List.mem_map.mp hc
   obtain⟨v,_,f⟩:=m6 L.cells q hq
   exact⟨_,f⟩
 refine⟨⟨e0.mod,O.kind,rfl,rfl,Nat.le_refl _,fun y z c h1 h2=>Nq L.nd (PySem.mem_of_lookup h1) (PySem.mem_of_lookup h2),fun y hy=>?_,fun y c h _=>(by cases (show false=true from h)),fun _=>hd,Around.frames_deeper e0.frames,.inr ⟨rfl,rfl⟩,fun b z=>absurd z (MK b),fun b o e=>⟨(e0.bs b o e).1,jg (e0.bs b o e).2⟩,e0.G8,fun b _ _=>MK b,fun b z=>absurd z (MK b),e0.mX,fun b hb=>jg (e0.Iw b hb)⟩,
   rfl,e0.bare,Un.kept hk,⟨m,hn,fun i y v' h1 h2 h3=>?_⟩,fun y c h=>?_,jg (e0.hok.fresh (Nat.le_refl _)),fun y c h=>qI (List.mem_map_of_mem (f:=(·.2)) (PySem.mem_of_lookup h)),fun p hp=>absurd (show p∈([]:List (Addr × Obj)) from hp) (by simp),((e0.hok.dels fz).kept hk),?_⟩
 · rcases hy with hy | hy
   · rcases O.of hy with ⟨_,e⟩ | ⟨_,e⟩ <;> cases e
   · rcases O.of hy with ⟨_,e⟩ | ⟨e,_⟩
     · cases e
     · exact rM (cs:=cs) (by rw [L.ys];exact e)
 · cases i with
   | zero =>
     cases h1;cases h2
     exact⟨u,r,.inl ⟨O.lx,hm⟩⟩
   | succ i =>
     have h1:D.ys[i]? = some y:=h1
     have h2:(vs.map some)[i]? = some (some v'):=h2
     rw [List.getElem?_map] at h2
     have h2':vs[i]? = some v':=by
       cases q:vs[i]? with
       | none=>rw [q] at h2;cases h2
       | some z=>rw [q] at h2;cases h2;rfl
     obtain⟨c,e1,e2⟩:=HB L.cells (by rw [L.ys];exact (List.nodup_cons.mp O.nd).2) (by rw [L.ys];exact h1) h2'
     obtain⟨uc,rc,hc⟩:=cell (y:=y) e2
     exact⟨uc,rc,.inr ⟨.inr (O.ly (List.mem_of_getElem? h1)),c,e1,IsCell.one hc (hk _)⟩⟩
 · obtain⟨v,_,f⟩:=m6 L.cells _ (PySem.mem_of_lookup h)
   obtain⟨uc,rc,hc⟩:=cell (y:=y) f
   exact⟨_,IsCell.one hc (hk _)⟩
 · have e1:=congrArg List.length L.ys
   have e2:cs.length=vs.length:=Paired.length L.cells
   show (some v::vs.map some).length=(D.x::D.ys).length
   simp at e1 ⊢
   omega
end L2
namespace L2
open PySem PySem.Spec PyProof.Rows PySem.Calls
open PySem.W (tabObj CodeHd kla_obj kla_fn)
theorem Nt {CX:wC}{P:Program}{w:World}{K:PySem.W.Frag}{mg:Str→Option Value}{base:Heap}{D:iC}{k:Nat}{tb:TE} (O:D.Ok)
   (hbody:∀ (p:Addr) (cs:List (Str × Addr)) (cd:Value) (A:Around) (outer:List Env) (s:Shared) (H:Hp) (E:XK),dq k (A.deeper (PySem.W.envX D.qual D.scope s.heap.objs.size p cd cs))→PE (vy CX P w K mg base D p cs cd A outer s H E) D.body tb)
   {A:Around}{outer:List Env}{s:Shared}{H:Hp}{p:Addr}{cs:List (Str × Addr)}{u:Value}{x:V}{vs:List V}{Q:VK}{E:XK} (hr:dq (k+1) A) (e0:qx P w K mg base A outer s H)
   (L:yc D H p cs vs) (r:RelV x u)
   (h:tb (some x::vs.map some) (dels H (cs.map (·.2))) (fun y H1=>Q y (back H (cs.map (·.2)) H1))) :
   codeAny (model P w) A (.call (.ref p) ⟨[u],[]⟩) (CR CX outer P w H s Q E) s:=by
 obtain⟨c',hp,oc,hcd⟩:=L.code
 obtain⟨⟨pm,ctv,ho⟩,_,_⟩:=e0.hok _ _ hp
 have hrec:s.heap.CodeRec (.ref c') D.qual:=(e0.hok _ _ hcd).2.1
 have lim:s.heap.NoLimit:=e0.mod.nolimit.keeps fun b o e=>(e0.bs b o e).1
 refine PySem.W.kla_callFunE hr.depth ho rfl O.co O.gen rfl hrec ?_
 rw [O.bind]
 refine wpAny_pure (wpAny_newFunctionEnv (fun y hy=>?_) (fun y hy=>?_) (fun h₁ hns hsb=>⟨lim.fresh _ hsb,?_⟩) O.kind)
 · have hy:y∈D.scope.names:=hy
   rw [O.names] at hy
   rcases List.mem_cons.mp hy with rfl | hy
   · intro z;cases z
   · obtain⟨q,_,rfl⟩:=List.mem_map.mp hy;intro z;cases z
 · rw [List.mem_singleton.mp hy];exact O.lx
 show codeAny _ _ (.expr D.body (PySem.W.envX D.qual D.scope s.heap.objs.size p (.ref c') cs)) _ _
 have hk₁:∀ b o,s.heap.get? b=some o→h₁.get? b=some o:=fun b o e=>hsb.extBut b o (Nat.ne_of_lt (Heap.lt_size e)) (Heap.get?_push_of_some _ e)
 have I:Inv (vy CX P w K mg base D p cs (.ref c') A outer s H E) [] (some x::vs.map some) (dels H (cs.map (·.2))) { s with heap:=h₁,toks:=s.toks+1 } :=
   Nr O hr.hd e0 L r hns (by show List.lookup D.x [(D.x,u)]=_;rw [List.lookup_cons,beq_self_eq_true]) hk₁
 refine PySem.W.kla_codeExpr (wpAny_mono (hbody p cs (.ref c') A outer s H E (hr.deeper _) [] _ _ _ _ I h) (fun y s' hs=>?_) fun e s' hs=>hs)
 obtain⟨v',H',J,rv,q⟩:=hs
 have fz:∀ c∈cs.map (·.2),∃ o u,H c=some (.ji o u):=fun c hc=>by
   obtain⟨z,hz,rfl⟩:=List.mem_map.mp hc
   obtain⟨v,_,o,f⟩:=m6 L.cells z hz
   exact⟨o,_,f⟩
 have un:=J.base
 have uT:∀ b:Addr,b∉(vy CX P w K mg base D p cs (.ref c') A outer s H E).ex:=fun b z=>absurd (show b∈([]:List Addr) from z) (by simp)
 have inn:∀ {b:Addr}{u:HO},b∈cs.map (·.2)→(∀ o v,u≠.ji o v)→H b≠some u:=fun {b u} hb n e=>by
   obtain⟨o,v,z⟩:=fz b hb
   rw [e] at z;cases z;exact n _ _ rfl
 have Qc:∀ b∈cs.map (·.2),∀ o,s.heap.get? b=some o→s'.heap.get? b=some o:=fun b hb o e=>un.keep b o e (qI hb) (fun z=>by
   obtain⟨o',u',z'⟩:=fz b hb
   have:=e0.Iw b z;rw [z'] at this;cases this) (uT b)
 refine⟨v',back H (cs.map (·.2)) H',J.os,J.bare,⟨fun b o e n hb hx=>un.keep b o e (jg n) hb (uT b),fun b o e n hb hx=>un.slot b o e (jg n) hb (uT b),fun b o e n hx=>?_,fun b o e hx=>un.there b o e (uT b),fun b xs e=>?_,fun b o z e=>?_,fun b ps e=>?_⟩,fun b o e=>?_,rv,q⟩
 · by_cases hb:b∈cs.map (·.2)
   · rw [back_in hb];exact n
   · rw [ik hb];exact un.free b o e (jg n) (uT b)
 · have hb:b∉cs.map (·.2):=fun hb=>inn hb (fun _ _ z=>by cases z) e
   rw [ik hb];exact un.tups b xs (by show dels H _ b=_;rw [xD hb];exact e)
 · by_cases hb:b∈cs.map (·.2)
   · rw [back_in hb];exact e
   · rw [ik hb];exact un.jW b o z (by show dels H _ b=_;rw [xD hb];exact e)
 · have hb:b∉cs.map (·.2):=fun hb=>inn hb (fun _ _ z=>by cases z) e
   rw [ik hb];exact un.j7 b ps (by show dels H _ b=_;rw [xD hb];exact e)
 · have own:∀ d,H' d=some (.own b)→back H (cs.map (·.2)) H' d=some (.own b):=fun d z=>by
     have hd:d∉cs.map (·.2):=fun hd=>by
       obtain⟨y,hy,e⟩:=List.mem_map.mp hd
       have hl:∃ y,cs.lookup y=some d:=by
         obtain⟨y1,y2⟩:=y
         have e:y2=d:=e
         subst e
         obtain⟨c,hc⟩:=rM (cs:=cs) (List.mem_map_of_mem (f:=(·.1)) hy)
         have hc2:=PySem.mem_of_lookup hc
         have ndf:(cs.map (·.1)).Nodup:=by rw [L.ys];exact (List.nodup_cons.mp O.nd).2
         have:c=y2:=Gv ndf hc2 hy
         subst this
         exact⟨y1,hc⟩
       obtain⟨y,hl⟩:=hl
       have:=J.ie y d hl
       rw [z] at this;cases this
     rw [ik hd];exact z
   have tup:∀ d xs,H' d=some (.tup xs)→back H (cs.map (·.2)) H' d=some (.tup xs):=fun d xs z=>by
     have hd:d∉cs.map (·.2):=fun hd=>by
       obtain⟨y,hy,e⟩:=List.mem_map.mp hd
       have hl:∃ y,cs.lookup y=some d:=by
         obtain⟨y1,y2⟩:=y
         have e:y2=d:=e
         subst e
         obtain⟨c,hc⟩:=rM (cs:=cs) (List.mem_map_of_mem (f:=(·.1)) hy)
         have hc2:=PySem.mem_of_lookup hc
         have ndf:(cs.map (·.1)).Nodup:=by rw [L.ys];exact (List.nodup_cons.mp O.nd).2
         have:c=y2:=Gv ndf hc2 hy
         subst this
         exact⟨y1,hc⟩
       obtain⟨y,hl⟩:=hl
       have:=J.ie y d hl
       rw [z] at this;cases this
     rw [ik hd];exact z
   by_cases hb:b∈cs.map (·.2)
   · rw [back_in hb] at e
     obtain⟨o',u',z⟩:=fz b hb
     rw [z] at e;cases e
     obtain⟨y,hy,ey⟩:=List.mem_map.mp hb
     obtain⟨v,_,ob,f⟩:=m6 L.cells y hy
     rw [ey] at f
     rw [z] at f;cases f
     obtain⟨g1,g2⟩:=e0.hok b _ z
     obtain⟨⟨uc,rc,hcell⟩,_,_⟩:=g2
     exact⟨Qc b hb _ g1,BV rc (IsCell.one hcell fun o q=>Qc b hb o q)⟩
   · rw [ik hb] at e
     exact (J.hok b o e).stay (fun _ _ _ q=>q) own tup
def Rn (D:iC) (tb tf:TE) (t:TA):TE:=fun σ H Q=>tf σ H fun f H1=>∃ p,f=.ref p∧t σ H1 fun vs H2=>∃ x cs ws,vs=[x]∧yc D H2 p cs ws ∧
 tb (some x::ws.map some) (dels H2 (cs.map (·.2))) fun y H3=>Q y (back H2 (cs.map (·.2)) H3)
theorem J7 {X:Cx}{CX:wC}{D:iC}{k:Nat}{tb tf:TE}{t:TA}{x:Str}{p pos:Pos}{e:Expr}{E:XK} (O:D.Ok)
   (hbody:∀ (p:Addr) (cs:List (Str × Addr)) (cd:Value) (A:Around) (outer:List Env) (s:Shared) (H:Hp) (E:XK),dq k (A.deeper (PySem.W.envX D.qual D.scope s.heap.objs.size p cd cs))→PE (vy CX X.prog X.w X.K X.mg X.base D p cs cd A outer s H E) D.body tb)
   (hr:dq (k+1) X.A) (hx:Passes CX X E) (hf:PE X (.Name x p) tf) (ha:PA X [e] t) (he:starEach [e] X.env=(false,eval e X.env)::starEach [] X.env:=by rfl) :
   PE X (.Call (.Name x p) [e] [] pos) (Rn D tb tf t):=by
 intro pins s σ H Q I h
 refine wpAny_Call_Name_kw (dh (hf pins s σ H _ I h) fun f s1 zq=>?_)
 obtain⟨fv,H1,I1,rf,q,ef,h1⟩:=zq
 subst ef
 obtain rfl:f=Value.ref q:=rf
 have h2:=ha pos pins s1 σ H1 _ I1 h1
 rw [he] at h2
 show wpAny _ _ (callWith pos (.ref q) [] (backTo pos (starEach [e] X.env)) []) _ _ _
 rw [he]
 refine PySem.W.callWith_of (P:=PySem.W.FnAt q) rfl PySem.W.keeps_F (evalArgs_plain (dh h2 fun us s2 zq=>?_))
 obtain⟨vs,H2,I2,rvs,y,cs,ws,ev,L,hb⟩:=zq
 subst ev
 obtain⟨c',hp,_⟩:=L.code
 obtain⟨⟨pm,ctv,ho⟩,_,_⟩:=I2.hok _ _ hp
 refine⟨⟨_,_,_,_,ho⟩,?_⟩
 cases rvs with
 | cons r rest =>
   cases rest
   refine wpAny_call (codeAny_mono (Nt (E:=E) O hbody hr I2.env0 L r hb) fun r s' hq=>?_)
   cases r with
   | error e=>exact hx pins σ H2 s2 e s' I2 hq
   | ok fl =>
     cases fl with
     | ret u=>exact I2.after hq
     | next=>exact False.elim hq
     | brk=>exact False.elim hq
     | cont=>exact False.elim hq
def BMain (mg:Str→Option Value) (h:Heap):Prop:=∃ bm ob,mg "__builtins__" = some (.ref bm)∧bm≠builtinsNs∧h.get? bm=some ob∧ob.cls=.type "module"∧ob.dict=some builtinsNs∧ob.data=.plain
def oZ (env:Env) (ys:List Str):List (Str × Addr):=ys.map fun y=>(y,(env.cells.lookup y).getD 0)
theorem vz {f:(Str × NameKind)→List (Str × Addr)→Sem (ForInStep (List (Str × Addr)))}{c:Str→Addr}:∀ (l:List Str) (acc:List (Str × Addr)),(∀ y∈l,∀ acc,f (y,.free) acc=pure (.yield ((y,c y)::acc))) →
   forIn (l.map fun y=>(y,NameKind.free)) acc f=pure ((l.reverse.map fun y=>(y,c y))++acc)
 | [],acc,_=>by simp
 | y::l,acc,h=>by
   rw [List.map_cons,List.forIn_cons,h y List.mem_cons_self]
   simp only [pure_bind]
   rw [vz l ((y,c y)::acc) fun z hz=>h z (List.mem_cons_of_mem _ hz)]
   simp
theorem J8 {D:iC} (O:D.Ok) {env:Env} (h:∀ y∈D.ys,∃ c,env.cells.lookup y=some c):closureFor D.scope env=pure (oZ env D.ys):=by
 unfold closureFor
 simp only []
 rw [O.names,List.forIn_cons]
 simp only [show (NameKind.local == NameKind.free)=false from rfl,pure_bind,Bool.false_eq_true,if_false]
 rw [vz (c:=fun y=>(env.cells.lookup y).getD 0) D.ys.reverse [] fun y hy acc=>?_]
 · simp [oZ]
 · obtain⟨c,e⟩:=h y (List.mem_reverse.mp hy)
   have e':cellOf env y=pure c:=by unfold cellOf;rw [e]
   simp [e',e]
def Gw (P:Addr) (H H':Hp):Prop:=∀ b u,b≠P→H b=some u→H' b=some u
def di (q:Str) (pos:Pos):Array Value:=#[.str q 0,rawInt pos.line,rawInt pos.col]
theorem Qd {P:Program}{w:World}{outer:List Env}{s:Shared}{h2:Heap}{H:Hp}{Q:VK}{D:iC}{Pt c' p:Addr}{cs:List (Str × Addr)}{pos:Pos}{pm ctv:Value}{tk:Tok}
   (hok:mW P w H s.heap) (hT:H Pt=some (.qp (di D.qual pos))) (hx:∀ b o,b≠Pt→s.heap.get? b=some o→h2.get? b=some o) (hP2:h2.get? Pt=some (tabObj #[rawInt pos.line,rawInt pos.col,.ref c']))
   (hrec:h2.CodeRec (.ref c') D.qual) (hp:h2.get? p=some (kla_obj "<lambda>" D.qual D.params D.body D.scope cs pm c' ctv))
   (fp:s.heap.objs.size≤p) (f':(H c'=none∧s.heap.objs.size≤c')∨H c'=some (.own Pt)) (bare:AllBare s.gens)
   (q:∀ H',H p=none→Gw Pt H H'→H' Pt=some (.qp (di D.qual pos ++ #[.ref c']))→H' p=some (Hz D p cs c')→H' c'=some (.own Pt)→Q (.ref p) H') :
   CE outer P w H s Q (.ref p) { s with heap:=h2,toks:=tk }:=by
 obtain⟨c2,o',vs',t',e',ho',hd',hv'⟩:=id hrec
 cases e'
 have hPlt:Pt<s.heap.objs.size:=(hok _ _ hT).lt
 have np:H p=none:=hok.fresh fp
 have n2:p≠c':=by rintro rfl;rw [hp] at ho';cases ho';cases hd'
 have n4:Pt≠p:=Nat.ne_of_lt (Nat.lt_of_lt_of_le hPlt fp)
 have n6:Pt≠c':=by
   rintro rfl
   rcases f' with ⟨e,_⟩ | e
   · rw [hT] at e;cases e
   · rw [hT] at e;cases e
 generalize eH:upd (upd (upd H Pt (.qp (di D.qual pos ++ #[.ref c']))) c' (.own Pt)) p (Hz D p cs c')=H'
 have g1:H' p=some (Hz D p cs c'):=by rw [← eH];exact zB
 have g3:H' c'=some (.own Pt):=by rw [← eH,zG n2.symm];exact zB
 have g4:H' Pt=some (.qp (di D.qual pos ++ #[.ref c'])):=by rw [← eH,zG n4,zG n6];exact zB
 have g5:∀ b,b≠p→b≠c'→b≠Pt→H' b=H b:=fun b a1 a3 a4=>by rw [← eH,zG a1,zG a3,zG a4]
 have sb:Gw Pt H H':=fun b o hb e=>by
   have a1:b≠p:=zC e np
   by_cases a3:b=c'
   · subst a3
     rcases f' with ⟨z,_⟩ | z
     · rw [z] at e;cases e
     · rw [z] at e;cases e;exact g3
   · rw [g5 b a1 a3 hb];exact e
 have old:∀ b o,s.heap.get? b=some o→H b=none→b≠Pt∧H' b=none:=fun b o e n=>by
   have lt:=Heap.lt_size e
   have a4:b≠Pt:=by rintro rfl;rw [hT] at n;cases n
   refine⟨a4,?_⟩
   rw [g5 b (Nat.ne_of_lt (Nat.lt_of_lt_of_le lt fp)) ?_ a4]
   · exact n
   · rintro rfl
     rcases f' with ⟨_,z⟩ | z
     · exact absurd (Nat.lt_of_lt_of_le lt z) (Nat.lt_irrefl _)
     · rw [n] at z;cases z
 refine⟨.ref p,H',rfl,bare,⟨fun b o e n _ _=>hx b o (old b o e n).1 e,fun b o e n _ _=>⟨o.slots,hx b o (old b o e n).1 e⟩,fun b o e n _=>(old b o e n).2,fun b o e _=>?_,fun b xs e=>?_,fun b o z e=>?_,fun b qs e=>?_⟩,fun b o e=>?_,rfl,q H' np sb g4 g1 g3⟩
 · by_cases hb:b=Pt
   · exact⟨_,by rw [hb];exact hP2⟩
   · exact⟨o,hx b o hb e⟩
 · exact sb b _ (by rintro rfl;rw [hT] at e;cases e) e
 · exact sb b _ (by rintro rfl;rw [hT] at e;cases e) e
 · by_cases hb:b=Pt
   · subst hb
     rw [hT] at e;cases e
     exact⟨_,g4⟩
   · exact⟨#[],by rw [sb b _ hb e];simp⟩
 · by_cases a1:b=p
   · subst a1;rw [g1] at e;cases e;exact Np hp
   by_cases a3:b=c'
   · subst a3;rw [g3] at e;cases e;exact⟨_,ho'⟩
   by_cases a4:b=Pt
   · subst a4;rw [g4] at e;cases e
     exact⟨_,hP2,.inr ⟨D.qual,_,_,c',rfl,.inr rfl,g3,hrec⟩⟩
   rw [g5 b a1 a3 a4] at e
   refine (hok b o e).stay (fun d z hd ez=>hx d z ?_ ez) (fun d z=>sb d _ ?_ z) fun d xs z=>sb d _ ?_ z
   · rcases hd with rfl | hd
     · exact a4
     · rintro rfl;rw [hT] at hd;cases hd
   · rintro rfl;rw [hT] at z;cases z
   · rintro rfl;rw [hT] at z;cases z
def Wc (D:iC) (env:Env) (Pt:Addr) (pos:Pos):TE:=fun _ H Q=>H Pt=some (.qp (di D.qual pos))∧∀ p c' H',H p=none→Gw Pt H H'→H' Pt=some (.qp (di D.qual pos ++ #[.ref c'])) →
 H' p=some (Hz D p (oZ env D.ys) c')→H' c'=some (.own Pt)→Q (.ref p) H'
theorem Nu {X:Cx}{D:iC}{c Pt:Addr}{pos:Pos} (O:D.Ok) (hq:X.env.qual ++ "<lambda>" = D.qual) (hdef:defaultsOf D.params X.env=([],[])) (hcv:X.env.code=.ref c) (hch:PySem.W.codeHdIn X.K c Pt=true) (hB:BMain X.mg X.base)
   (hys:∀ y∈D.ys,X.env.kindOf y=some .cell):PE X (.Lambda D.params D.body D.scope pos) (Wc D X.env Pt pos):=by
 intro pins s σ H Q I h
 obtain⟨hT,h⟩:=h
 have hclos:=J8 O (env:=X.env) fun y hy=>I.ok.has y (.inl (hys y hy))
 have hgs:s.heap.Ns mainGlobals X.mg:=I.mod.glob.keeps I.bk
 have C:CodeHd s.heap c Pt:=PySem.W.codeHd_of_K I.uO hch
 have hsome:H Pt≠none:=by rw [hT];simp
 have hgP:mainGlobals≠Pt:=fun e=>by
   obtain⟨o,_,_,z,_⟩:=I.mod.glob
   exact hsome (e ▸ (I.bs _ _ z).2)
 have hBA:s.heap.BuiltinsAt X.mg Pt:=by
   obtain⟨bm,ob,a1,a2,a3,a4,a5,a6⟩:=hB
   refine⟨bm,ob,a1,a2,fun e=>?_,fun e=>hsome (e ▸ (I.bs _ _ a3).2),(I.bs _ _ a3).1,a4,a5,a6⟩
   obtain⟨o,_,_,z,d,_⟩:=I.mod.glob
   rw [e,z] at a3;cases a3;rw [d] at a6;cases a6
 refine PySem.W.kla_eval hdef ?_
 rw [hq]
 obtain⟨ts,hP,hd⟩:=I.hok _ _ hT
 rcases hd with ⟨rfl,_⟩ | ⟨q,ln,cl,c',rfl,e2,e3,hrec⟩
 · refine PySem.W.kla_makeFunction (mg:=X.mg) hclos I.ok.glob hgs hcv C hP trivial rfl hgP hBA fun c' ctv h' tk hx hge hlt hrec htb=>?_
   refine I.after (Qd (pos:=pos) I.hok hT (fun b o hb e=>Heap.get?_push_of_some _ (hx b o hb e)) (Heap.get?_push_of_some _ (by simpa using htb)) (hrec.push _) (Heap.get?_push_size _ rfl) (Nat.le_trans hge (Nat.le_of_lt hlt)) (.inl ⟨I.hok.fresh hge,hge⟩) I.bare fun H' np sb q1 q2 q3=>?_)
   exact h _ c' H' np sb q1 q2 q3
 · have e2':q=D.qual∧ln=rawInt pos.line∧cl=rawInt pos.col:=by
     rcases e2 with e2 | e2
     · have e2:=congrArg Array.toList e2
       simp [di] at e2
       obtain⟨a,b,c⟩:=e2
       exact⟨a.symm,b.symm,c.symm⟩
     · have e2:=congrArg Array.toList e2
       simp [di] at e2
   obtain⟨rfl,rfl,rfl⟩:=e2'
   refine PySem.W.kla_makeFunctionHit (mg:=X.mg) (cv:=.ref c') hclos I.ok.glob hgs hcv C hP trivial (by simp [codeAmong,rawInt]) hBA fun ctv h' tk hx hsz=>?_
   have hk:∀ b o,s.heap.get? b=some o→(h'.push { cls:=.type "function",data:=.func (kla_fn "<lambda>" D.qual D.params D.body D.scope (oZ X.env D.ys) ((X.mg "__name__").getD .none) (.ref c') ctv) }).get? b=some o:=fun b o e=>Heap.get?_push_of_some _ (hx b o e)
   refine I.after (Qd (pos:=pos) I.hok hT (fun b o _ e=>hk b o e) (hk _ _ hP) ?_ (Heap.get?_push_size _ rfl) hsz (.inr e3) I.bare fun H' np sb q1 q2 q3=>?_)
   · obtain⟨c2,o2,vs2,t2,e2,g2,r2⟩:=hrec
     cases e2
     exact⟨c',o2,vs2,t2,rfl,hk _ _ g2,r2⟩
   · exact h _ c' H' np sb q1 q2 q3
end L2
namespace L2
open PySem PySem.Spec PyProof.Rows PySem.Calls
open PySem.W (tabObj CodeHd kla_obj kla_fn)
def ov (O H:Hp):Hp:=fun b=>match O b with | some o=>some o | none=>H b
def HD (O H H3:Hp):Hp:=fun b=>match O b with | some _=>H b | none=>H3 b
theorem uM {O H:Hp}{b:Addr}{o:HO} (e:O b=some o):ov O H b=some o:=by unfold ov;rw [e]
theorem xI {O H:Hp}{b:Addr} (e:O b=none):ov O H b=H b:=by unfold ov;rw [e]
theorem jh {O H H3:Hp}{b:Addr} (e:O b≠none):HD O H H3 b=H b:=by
 unfold HD
 cases q:O b with
 | none=>exact absurd q e
 | some o=>rfl
theorem xE {O H H3:Hp}{b:Addr} (e:O b=none):HD O H H3 b=H3 b:=by unfold HD;rw [e]
section
variable {X:Cx}{pins:List (Addr × Obj)}{σ:St}{H O:Hp}{s s':Shared}
theorem Inv.lend (I:Inv X pins σ H s) (fz:∀ b o,O b=some o→∃ ob u,o=.ji ob u∧s.heap.get? b=some ob∧∀ H',bC X.prog X.w H' s.heap b u)
   (own1:∀ b y,O b≠none→H b=some (.own y)→O y≠none) (res:∀ b o,O b≠none→H b=some o→∀ (H':Hp) (h':Heap),(∀ d ob,O d≠none→s.heap.get? d=some ob→h'.get? d=some ob)→(∀ d,O d≠none→H' d=H d)→bC X.prog X.w H' h' b o) (tup:∀ b xs,O b≠none→H b≠some (.tup xs))
   (bs:∀ b o,X.base.get? b=some o→O b=none) (fr:∀ b∈frs X.stack,O b=none) :
   qx X.prog X.w X.K X.mg X.base X.A X.stack s (ov O H)∧∀ (Q:VK) (u:Value) (s':Shared),CE X.stack X.prog X.w (ov O H) s (fun v H3=>(∀ b o,O b=some o→H3 b=some o)→Q v (HD O H H3)) u s'→CE X.stack X.prog X.w H s Q u s':=by
 have e0:=I.env0
 refine⟨⟨e0.frames,e0.mod,fun b o e=>⟨(e0.bs b o e).1,by rw [xI (bs b o e)];exact (e0.bs b o e).2⟩,e0.G8,e0.mX,fun b hb=>by rw [xI (fr b hb)];exact e0.Iw b hb,fun b o e=>?_,e0.bare⟩,fun Q u s' h=>?_⟩
 · cases q:O b with
   | some o' =>
     rw [uM q] at e;cases e
     obtain⟨ob,u,rfl,g,k⟩:=fz b _ q
     exact⟨g,k _⟩
   | none =>
     rw [xI q] at e
     refine (I.hok b o e).stay (fun _ _ _ z=>z) (fun d z=>?_) fun d xs z=>?_
     · cases q2:O d with
       | none=>rw [xI q2];exact z
       | some _=>exact absurd q (own1 d b (by rw [q2];simp) z)
     · cases q2:O d with
       | none=>rw [xI q2];exact z
       | some _=>exact absurd z (tup d xs (by rw [q2];simp))
 · obtain⟨v,H3,os,bare,un,hok,r,q⟩:=h
   have same:∀ b o,O b=some o→H3 b=some o∧∃ ob u,o=.ji ob u∧s.heap.get? b=some ob∧s'.heap.get? b=some ob:=fun b o e=>by
     obtain⟨ob,u,rfl,g,_⟩:=fz b _ e
     have z:=un.jW b ob u (uM e)
     exact⟨z,ob,u,rfl,g,(hok b _ z).1⟩
   refine⟨v,HD O H H3,os,bare,⟨fun b o e n hb hx=>?_,fun b o e n hb hx=>?_,fun b o e n hx=>?_,un.there,fun b xs e=>?_,fun b o z e=>?_,fun b ps e=>?_⟩,fun b o e=>?_,r,q fun b o e=>(same b o e).1⟩
   · cases z:O b with
     | none=>exact un.keep b o e (by rw [xI z];exact n) hb hx
     | some o' =>
       obtain⟨_,ob,u,_,g1,g2⟩:=same b o' z
       rw [e] at g1;cases g1;exact g2
   · exact un.slot b o e (by rw [xI (fr b hb)];exact n) hb hx
   · cases z:O b with
     | none=>rw [xE z];exact un.free b o e (by rw [xI z];exact n) hx
     | some o'=>rw [jh (by rw [z];simp)];exact n
   · cases z:O b with
     | none=>rw [xE z];exact un.tups b xs (by rw [xI z];exact e)
     | some o'=>exact absurd e (tup b xs (by rw [z];simp))
   · cases y:O b with
     | none=>rw [xE y];exact un.jW b o z (by rw [xI y];exact e)
     | some o'=>rw [jh (by rw [y];simp)];exact e
   · cases y:O b with
     | none=>rw [xE y];exact un.j7 b ps (by rw [xI y];exact e)
     | some o'=>rw [jh (by rw [y];simp)];exact⟨#[],by rw [e];simp⟩
   · cases y:O b with
     | none =>
       rw [xE y] at e
       refine (hok b o e).stay (fun _ _ _ z=>z) (fun d z=>?_) fun d xs z=>?_
       · cases q2:O d with
         | none=>rw [xE q2];exact z
         | some o2 =>
           obtain⟨g,ob,u,rfl,_⟩:=same d o2 q2
           rw [z] at g;cases g
       · cases q2:O d with
         | none=>rw [xE q2];exact z
         | some o2 =>
           obtain⟨g,ob,u,rfl,_⟩:=same d o2 q2
           rw [z] at g;cases g
     | some o' =>
       have hb:O b≠none:=by rw [y];simp
       rw [jh hb] at e
       refine res b o hb e _ _ (fun d ob hd ez=>?_) fun d hd=>jh hd
       cases q2:O d with
       | none=>exact absurd q2 hd
       | some o2 =>
         obtain⟨_,ob,u,_,g1,g2⟩:=same d o2 q2
         rw [ez] at g1;cases g1;exact g2
end
structure Nv (H H2:Hp) (Pt c':Addr) (q:Str) (cs:List (Str × Addr)) (ws:List V):Prop where
 code:Fz H2 c' (BR c' q)
 nd:(cs.map (·.2)).Nodup
 cells:Paired (fun (y:Str × Addr) v=>Fz H2 y.2 (m5 y.2 v)) cs ws
 keep:∀ b o,H b=some o→b≠Pt→b≠c'→H2 b=some o
structure Rest (H H3 H4:Hp) (Pt c':Addr):Prop where
 old:∀ b o,H b=some o→(b=Pt∨b=c'∨H3 b=some o)→H4 b=some o
 new:∀ b o,H3 b=some o→(∀ ob u,o≠.ji ob u)→H4 b=some o
theorem Nv.same {H H2 H3 H4:Hp}{Pt c':Addr}{q:Str}{cs:List (Str × Addr)}{ws:List V} (L:Nv H H2 Pt c' q cs ws) (e:aD H2 H3) (r:Rest H H3 H4 Pt c'):aD H H4:=fun b o z=>by
 by_cases h1:b=Pt
 · exact r.old b o z (.inl h1)
 by_cases h2:b=c'
 · exact r.old b o z (.inr (.inl h2))
 exact r.old b o z (.inr (.inr (e b o (L.keep b o z h1 h2))))
def J9 (h:Heap):List (Addr × V)→Hp
 | [],_=>none
 | (c,v)::r,b=>if b=c then (h.get? c).map fun o=>.ji o (m5 c v) else J9 h r b
def Gx (h:Heap) (Pt c':Addr) (q:Str) (cv:List (Addr × V)):Hp:=fun b=>if b=Pt then (h.get? Pt).map fun o=>.ji o (.own Pt) else if b=c' then (h.get? c').map fun o=>.ji o (BR c' q) else J9 h cv b
theorem qJ {h:Heap}:∀ {cv:List (Addr × V)}{b:Addr}{o:HO},J9 h cv b=some o→∃ v ob,(b,v)∈cv∧h.get? b=some ob∧o=.ji ob (m5 b v)
 | [],_,_,e=>by cases e
 | (c,v)::r,b,o,e=>by
   unfold J9 at e
   by_cases hb:b=c
   · rw [if_pos hb] at e
     subst hb
     cases q:h.get? b with
     | none=>rw [q] at e;cases e
     | some ob=>rw [q] at e;cases e;exact⟨v,ob,List.mem_cons_self,rfl,rfl⟩
   · rw [if_neg hb] at e
     obtain⟨v',ob,m,g⟩:=qJ e
     exact⟨v',ob,List.mem_cons_of_mem _ m,g⟩
theorem Gy {h:Heap}:∀ {cs:List (Str × Addr)}{ws:List V},Paired (fun (y:Str × Addr) (v:V)=>∃ o,h.get? y.2=some o) cs ws→(cs.map (·.2)).Nodup→Paired (fun (y:Str × Addr) v=>Fz (J9 h ((cs.map (·.2)).zip ws)) y.2 (m5 y.2 v)) cs ws
 | _,_,.nil,_=>.nil
 | _,_,@Paired.cons _ _ _ a b la lb r t,nd=>by
   have tR:=List.nodup_cons.mp nd
   obtain⟨o,ho⟩:=r
   refine .cons ⟨o,?_⟩ ?_
   · show (if a.2=a.2 then _ else _)=_
     rw [if_pos rfl,ho];rfl
   · have ih:=Gy t tR.2
     have aux:∀ {l1:List (Str × Addr)}{l2:List V},(∀ y∈l1,y∈la)→Paired (fun (y:Str × Addr) v=>Fz (J9 h ((la.map (·.2)).zip lb)) y.2 (m5 y.2 v)) l1 l2→Paired (fun (y:Str × Addr) v=>Fz (J9 h (((a::la).map (·.2)).zip (b::lb))) y.2 (m5 y.2 v)) l1 l2:=by
       intro l1 l2 hs hp
       induction hp with
       | nil=>exact .nil
       | @cons y v l1 l2 r t ih2 =>
         refine .cons ?_ (ih2 fun z hz=>hs z (List.mem_cons_of_mem _ hz))
         obtain⟨o,ho⟩:=r
         refine⟨o,?_⟩
         show (if y.2=a.2 then _ else J9 h ((la.map (·.2)).zip lb) y.2)=_
         rw [if_neg fun z=>tR.1 (by show a.2∈la.map (·.2);rw [← z];exact List.mem_map_of_mem (f:=(·.2)) (hs y List.mem_cons_self))]
         exact ho
     exact aux (fun y hy=>hy) ih
section
variable {X:Cx}
theorem Inv.Wd {pins:List (Addr × Obj)}{σ:St}{H:Hp}{s:Shared} (I:Inv X pins σ H s) {D:iC}{Pt c':Addr}{pos:Pos}{is:List Nat}{ws:List V} (hT:H Pt=some (.qp (di D.qual pos ++ #[.ref c'])))
   (hfn:∀ y∈D.ys,X.fn y=true∧X.env.kindOf y=some .cell) (nd:D.ys.Nodup) (hN:Paired (fun (y:Str) i=>X.N[i]? = some y) D.ys is) (hw:Paired (fun i w=>σ[i]? = some (some w)) is ws) :
   ∃ H2,Nv H H2 Pt c' D.qual (oZ X.env D.ys) ws∧qx X.prog X.w X.K X.mg X.base X.A X.stack s H2 ∧
     ∀ (Q:VK) (u:Value) (s':Shared),CE X.stack X.prog X.w H2 s (fun v H3=>∀ H4,Rest H H3 H4 Pt c'→Q v H4) u s'→CE X.stack X.prog X.w H s Q u s':=by
 obtain⟨ts,hP,hd⟩:=I.hok _ _ hT
 have hc':H c'=some (.own Pt)∧s.heap.CodeRec (.ref c') D.qual:=by
   rcases hd with ⟨_,q,ln,cl,e⟩ | ⟨q,ln,cl,c2,_,e2,e3,hrec⟩
   · have e:=congrArg Array.toList e;simp [di] at e
   · rcases e2 with e | e
     · have e:=congrArg Array.toList e;simp [di] at e
     · have e:=congrArg Array.toList e
       simp [di] at e
       obtain⟨rfl,_,_,rfl⟩:=e
       exact⟨e3,hrec⟩
 obtain⟨m,hn,hl⟩:=I.loc
 have lk:∀ {y:Str},y∈D.ys→∃ c,X.env.cells.lookup y=some c∧(X.env.cells.lookup y).getD 0=c:=fun {y} hy=>by
   obtain⟨c,e⟩:=I.ok.has y (.inl (hfn y hy).2)
   exact⟨c,e,by rw [e];rfl⟩
 have cells:Paired (fun (y:Str × Addr) (v:V)=>y.1∈D.ys∧X.env.cells.lookup y.1=some y.2∧∃ u,RelV v u∧s.heap.IsCell y.2 (some u)) (oZ X.env D.ys) ws:=by
   have aux:∀ (l:List Str) (is:List Nat) (ws:List V),(∀ y∈l,y∈D.ys)→Paired (fun (y:Str) i=>X.N[i]? = some y) l is→Paired (fun i w=>σ[i]? = some (some w)) is ws →
       Paired (fun (y:Str × Addr) (v:V)=>y.1∈D.ys∧X.env.cells.lookup y.1=some y.2∧∃ u,RelV v u∧s.heap.IsCell y.2 (some u)) (oZ X.env l) ws:=by
     intro l is ws hs a b
     induction a generalizing ws with
     | nil=>cases b;exact .nil
     | cons r t ih =>
       cases b with
       | cons r2 t2 =>
         have hy:=hs _ List.mem_cons_self
         obtain⟨c,e1,e2⟩:=lk hy
         refine .cons ⟨hy,by show _=some ((X.env.cells.lookup _).getD 0);rw [e2];exact e1,?_⟩ (ih _ (fun z hz=>hs z (List.mem_cons_of_mem _ hz)) t2)
         obtain⟨u,ru,l⟩:=hl _ _ _ r r2 (.inr (.inl (hfn _ hy).2))
         rcases l with ⟨z,_⟩ | ⟨_,c2,e3,e4⟩
         · rw [(hfn _ hy).2] at z;cases z
         · rw [e1] at e3;cases e3
           exact⟨u,ru,by show s.heap.IsCell ((X.env.cells.lookup _).getD 0) _;rw [e2];exact e4⟩
   exact aux D.ys is ws (fun _ h=>h) hN hw
 have ndc:((oZ X.env D.ys).map (·.2)).Nodup:=by
   have aux:∀ l:List Str,l.Nodup→(∀ y∈l,y∈D.ys)→((oZ X.env l).map (·.2)).Nodup:=by
     intro l
     induction l with
     | nil=>intro _ _;exact List.nodup_nil
     | cons a l ih =>
       intro nd hs
       have tR:=List.nodup_cons.mp nd
       refine List.nodup_cons.mpr ⟨fun z=>?_,ih tR.2 fun y hy=>hs y (List.mem_cons_of_mem _ hy)⟩
       obtain⟨p,hp,e⟩:=List.mem_map.mp z
       obtain⟨y,hy,rfl⟩:=List.mem_map.mp hp
       obtain⟨c,e1,e2⟩:=lk (hs a List.mem_cons_self)
       obtain⟨d,e3,e4⟩:=lk (hs y (List.mem_cons_of_mem _ hy))
       have e:(X.env.cells.lookup y).getD 0=(X.env.cells.lookup a).getD 0:=e
       rw [e2,e4] at e
       subst e
       exact tR.1 (by rw [I.ok.inj a y d e1 e3];exact hy)
   exact aux D.ys nd fun _ h=>h
 have cellOf:∀ {b:Addr}{v:V},(b,v)∈((oZ X.env D.ys).map (·.2)).zip ws→H b=none∧X.s₀.heap.objs.size≤b∧∃ u,RelV v u∧s.heap.IsCell b (some u):=fun {b v} hm=>by
   have aux:∀ {cs:List (Str × Addr)}{ws:List V},Paired (fun (y:Str × Addr) (v:V)=>y.1∈D.ys∧X.env.cells.lookup y.1=some y.2∧∃ u,RelV v u∧s.heap.IsCell y.2 (some u)) cs ws→(b,v)∈(cs.map (·.2)).zip ws →
       H b=none∧X.s₀.heap.objs.size≤b∧∃ u,RelV v u∧s.heap.IsCell b (some u):=by
     intro cs ws hp
     induction hp with
     | nil=>intro z;cases z
     | cons r t ih =>
       intro z
       rcases List.mem_cons.mp z with z | z
       · cases z
         exact⟨I.ie _ _ r.2.1,I.ok.cab _ _ (hfn _ r.1).1 r.2.1,r.2.2⟩
       · exact ih z
   exact aux cells hm
 generalize hO:Gx s.heap Pt c' D.qual (((oZ X.env D.ys).map (·.2)).zip ws)=O
 have nPc:c'≠Pt:=by rintro rfl;rw [hT] at hc';cases hc'.1
 have oP:O Pt=some (.ji { cls:=.none,data:=.fields ts } (.own Pt)):=by
   rw [← hO];unfold Gx;rw [if_pos rfl,hP];rfl
 obtain⟨oc,hoc⟩:∃ oc,s.heap.get? c'=some oc:=by
   obtain⟨c2,o,vs,t,e,g,_⟩:=hc'.2
   cases e;exact⟨o,g⟩
 have oC:O c'=some (.ji oc (BR c' D.qual)):=by
   rw [← hO];unfold Gx;rw [if_neg nPc,if_pos rfl,hoc];rfl
 have oX:∀ {b},b≠Pt→b≠c'→O b=J9 s.heap (((oZ X.env D.ys).map (·.2)).zip ws) b:=fun {b} h1 h2=>by
   rw [← hO];unfold Gx;rw [if_neg h1,if_neg h2]
 have cls:∀ {b},O b≠none→b=Pt∨b=c'∨(H b=none∧X.s₀.heap.objs.size≤b∧∃ v,s.heap.IsCell b v):=fun {b} h=>by
   by_cases h1:b=Pt
   · exact .inl h1
   by_cases h2:b=c'
   · exact .inr (.inl h2)
   rw [oX h1 h2] at h
   cases q:J9 s.heap (((oZ X.env D.ys).map (·.2)).zip ws) b with
   | none=>exact absurd q h
   | some o =>
     obtain⟨v,ob,hm,_⟩:=qJ q
     obtain⟨g1,g2,u,_,g3⟩:=cellOf hm
     exact .inr (.inr ⟨g1,g2,_,g3⟩)
 have Gz:∀ {b:Addr}{u:HO},H b=some u→O b≠none→b=Pt∨b=c':=fun {b u} e h=>by
   rcases cls h with h | h | ⟨h,_⟩
   · exact .inl h
   · exact .inr h
   · rw [e] at h;cases h
 have f0:∀ b o,O b=some o→∃ ob u,o=.ji ob u∧s.heap.get? b=some ob∧∀ H',bC X.prog X.w H' s.heap b u:=fun b o e=>by
   by_cases h1:b=Pt
   · subst h1;rw [oP] at e;cases e
     exact⟨_,_,rfl,hP,fun _=>⟨_,hP⟩⟩
   by_cases h2:b=c'
   · subst h2;rw [oC] at e;cases e
     exact⟨_,_,rfl,hoc,fun _=>J5 hc'.2⟩
   rw [oX h1 h2] at e
   obtain⟨v,ob,hm,g,rfl⟩:=qJ e
   obtain⟨_,_,u,ru,hcell⟩:=cellOf hm
   exact⟨_,_,rfl,g,fun _=>BV ru hcell⟩
 have f1:∀ b y,O b≠none→H b=some (.own y)→O y≠none:=fun b y h1 h2=>by
   rcases Gz h2 h1 with rfl | rfl
   · rw [hT] at h2;cases h2
   · rw [hc'.1] at h2;cases h2;rw [oP];simp
 have f2:∀ b o,O b≠none→H b=some o→∀ (H':Hp) (h':Heap),(∀ d ob,O d≠none→s.heap.get? d=some ob→h'.get? d=some ob)→(∀ d,O d≠none→H' d=H d)→bC X.prog X.w H' h' b o:=fun b o h1 h2 H' h' k1 k2=>by
   have cP:O Pt≠none:=by rw [oP];simp
   have cC:O c'≠none:=by rw [oC];simp
   rcases Gz h2 h1 with rfl | rfl
   · rw [hT] at h2;cases h2
     refine⟨ts,k1 _ _ cP hP,?_⟩
     rcases hd with ⟨_,q,ln,cl,e⟩ | ⟨q,ln,cl,c2,z1,z2,z3,z4⟩
     · have e:=congrArg Array.toList e;simp [di] at e
     · rcases z2 with e | e
       · have e:=congrArg Array.toList e;simp [di] at e
       · have e':=congrArg Array.toList e
         simp [di] at e'
         obtain⟨rfl,_,_,rfl⟩:=e'
         obtain⟨c3,o3,vs,t,e3,e4,e5⟩:=z4
         cases e3
         exact .inr ⟨_,ln,cl,c',z1,.inr e,by rw [k2 _ cC];exact z3,c',o3,vs,t,rfl,k1 _ _ cC e4,e5⟩
   · rw [hc'.1] at h2;cases h2
     exact⟨_,k1 _ _ cC hoc⟩
 have f3:∀ b xs,O b≠none→H b≠some (.tup xs):=fun b xs h1 h2=>by
   rcases Gz h2 h1 with rfl | rfl
   · rw [hT] at h2;cases h2
   · rw [hc'.1] at h2;cases h2
 have f4:∀ b o,X.base.get? b=some o→O b=none:=fun b o e=>by
   cases z:O b with
   | none=>rfl
   | some o' =>
     have hb:=(I.bs b o e).2
     rcases cls (b:=b) (by rw [z];simp) with rfl | rfl | ⟨_,g,_⟩
     · rw [hT] at hb;cases hb
     · rw [hc'.1] at hb;cases hb
     · exact absurd (Nat.lt_of_lt_of_le (Heap.lt_size e) (Nat.le_trans I.ok.G8 g)) (Nat.lt_irrefl _)
 have f5:∀ b∈frs X.stack,O b=none:=fun b hb=>by
   cases z:O b with
   | none=>rfl
   | some o' =>
     have hb':=I.yh b hb
     rcases cls (b:=b) (by rw [z];simp) with rfl | rfl | ⟨_,g,v,o,g2,g3⟩
     · rw [hT] at hb';cases hb'
     · rw [hc'.1] at hb';cases hb'
     · rcases I.ok.Vm with e | ⟨e,e2⟩
       · rw [e] at hb
         obtain⟨o2,e3,_⟩:=(I.ok.mX.mem hb).2
         exact absurd (Nat.lt_of_lt_of_le (Heap.lt_size e3) g) (Nat.lt_irrefl _)
       · rw [e] at hb
         have hb:b∈(X.env::X.outer).filterMap (·.frame):=hb
         rw [List.filterMap_cons_some e2] at hb
         rcases List.mem_cons.mp hb with rfl | hb
         · obtain⟨o3,es,ep,e4,e5,_⟩:=hn
           rw [g2] at e4;cases e4
           rw [g3] at e5;cases e5
         · obtain⟨o2,e3,_⟩:=(I.ok.mX.mem hb).2
           exact absurd (Nat.lt_of_lt_of_le (Heap.lt_size e3) g) (Nat.lt_irrefl _)
 obtain⟨E0,back⟩:=I.lend f0 f1 f2 f3 f4 f5
 refine⟨ov O H,⟨⟨oc,uM oC⟩,ndc,?_,fun b o e h1 h2=>?_⟩,E0,fun Q u s' h=>back Q u s' ?_⟩
 · have hh:=Gy (h:=s.heap) (Paired.Mr cells fun y v q=>by
     obtain⟨_,_,u,_,o,g,_⟩:=q
     exact⟨o,g⟩) ndc
   have aux:∀ {l1:List (Str × Addr)}{l2:List V},Paired (fun (y:Str × Addr) (v:V)=>y.1∈D.ys∧X.env.cells.lookup y.1=some y.2∧∃ u,RelV v u∧s.heap.IsCell y.2 (some u)) l1 l2 →
       Paired (fun (y:Str × Addr) v=>Fz (J9 s.heap (((oZ X.env D.ys).map (·.2)).zip ws)) y.2 (m5 y.2 v)) l1 l2→Paired (fun (y:Str × Addr) v=>Fz (ov O H) y.2 (m5 y.2 v)) l1 l2:=by
     intro l1 l2 a b
     induction a with
     | nil=>exact .nil
     | cons r t ih =>
       cases b with
       | cons r2 t2 =>
         refine .cons ?_ (ih t2)
         obtain⟨o,ho⟩:=r2
         have hf:=I.ie _ _ r.2.1
         refine⟨o,uM ?_⟩
         rw [oX (by intro z;rw [z,hT] at hf;cases hf) (by intro z;rw [z,hc'.1] at hf;cases hf)]
         exact ho
   exact aux cells hh
 · cases q:O b with
   | none=>rw [xI q];exact e
   | some o' =>
     rcases Gz e (by rw [q];simp) with z | z
     · exact absurd z h1
     · exact absurd z h2
 · obtain⟨v,H3,os,bare,un,hok,r,q⟩:=h
   refine⟨v,H3,os,bare,un,hok,r,fun hs=>q _ ⟨fun b o e h=>?_,fun b o e h=>?_⟩⟩
   · cases z:O b with
     | some o'=>rw [jh (by rw [z];simp)];exact e
     | none =>
       rw [xE z]
       rcases h with rfl | rfl | h
       · rw [oP] at z;cases z
       · rw [oC] at z;cases z
       · exact h
   · cases z:O b with
     | none=>rw [xE z];exact e
     | some o' =>
       obtain⟨ob,u,rfl⟩:∃ ob u,o'=.ji ob u:=by
         by_cases h1:b=Pt
         · subst h1;rw [oP] at z;cases z;exact⟨_,_,rfl⟩
         by_cases h2:b=c'
         · subst h2;rw [oC] at z;cases z;exact⟨_,_,rfl⟩
         rw [oX h1 h2] at z
         obtain⟨v,ob,_,_,rfl⟩:=qJ z
         exact⟨_,_,rfl⟩
       have g:=hs b _ z
       rw [e] at g;cases g
       exact absurd rfl (h _ _)
end
section
variable {X:Cx}{k:Nat}{m:Str}{pos apos Nx:Pos}{e o:Expr}{es:List Expr}{ta:TE}{t:TA}
def Ro (X:Cx) (k:Nat) (m:Str) (D:iC) (Pt:Addr) (Nx:Pos) (is:List Nat) (ta:TE) (t:TA):TE:=fun σ H Q=>ta σ H fun x H1=>∃ (a C dx:Addr) (fs:List (Str × V)) (M:cM X.prog X.w X.K X.mg X.base bW k C m),x=.ref a∧H1 a=some (.ins C dx fs)∧fs.lookup m=none ∧
 t σ H1 fun vs H2=>∃ c' ws,H2 Pt=some (.qp (di D.qual Nx ++ #[.ref c']))∧Paired (fun i w=>σ[i]? = some (some w)) is ws ∧
   ∀ H3,Nv H2 H3 Pt c' D.qual (oZ X.env D.ys) ws→M.sp (x::(vs++M.pG)) H3 (fun y H4=>∀ H5,Rest H2 H4 H5 Pt c'→Q y H5) E0
theorem Ka {D:iC}{Pt:Addr}{is:List Nat}{pl:Sem Bool} (hr:dq k X.A) (he:PE X o ta) (ha:PA X (e::es) t)
   (hfn:∀ y∈D.ys,X.fn y=true∧X.env.kindOf y=some .cell) (nd:D.ys.Nodup) (hN:Paired (fun (y:Str) i=>X.N[i]? = some y) D.ys is)
   (hst:starEach (e::es) X.env=(false,eval e X.env)::starEach es X.env:=by rfl) (hpl:(backTo pos (starEach es X.env)).any (·.1)=false:=by rfl)
   (ht:eval (.Call (.Attribute o m apos) (e::es) [] pos) X.env=(do
     let ov ← eval o X.env
     standAt apos.atName
     let (f,first) ← holding [ov] (getMethod ov m pl)
     callWith pos f first (backTo pos (starEach (e::es) X.env)) (backToKw pos (keywordEach [] X.env))):=by rfl) :
   PE X (.Call (.Attribute o m apos) (e::es) [] pos) (Ro X k m D Pt Nx is ta t):=by
 intro pins s σ H Q I h
 refine PySem.W.methodCall_KW (pl:=pl) (dh (he pins s σ H _ I h) fun u s1 zq=>?_) ht
 obtain⟨x,H1,I1,rx,a,C,dx,fs,M,ex,ea,l,q⟩:=zq
 subst ex
 obtain rfl:u=Value.ref a:=rx
 refine pN I1 ea M.c M.hm l ?_
 refine PySem.W.callWith_K (first:=[.ref a]) (h₀:=X.base) I.ok.mod.Pu M.hm.kp (dh (ha pos pins s1 σ H1 _ I1 q) fun us s2 zq=>?_) hst hpl
 obtain⟨vs,H2,I2,r,c',ws,hT,hw,q2⟩:=zq
 refine⟨I2.uO,?_⟩
 obtain⟨H3,L,e0,back⟩:=I2.Wd hT hfn nd hN hw
 have h3:=q2 H3 L
 have r2:Vals ((.ref a::vs)++M.pG) ((.ref a::us)++M.ds):=Vals.append (.cons rfl r) M.hd
 have hl:((.ref a::us)++M.ds).length=M.ps.length:=by rw [← r2.length];exact M.F.len _ _ _ _ h3
 refine wpAny_call (codeAny_mono (M.F.run X.A X.stack s2 H3 ⟨.ref a::us,[]⟩ _ _ _ _ hr e0 (M.hb s2 (.ref a::us) I2.uO hl) r2 h3) fun r s' hq=>?_)
 cases r with
 | error e=>exact False.elim hq
 | ok fl =>
   cases fl with
   | ret u=>exact I2.after (back Q u s' hq)
   | next=>exact False.elim hq
   | brk=>exact False.elim hq
   | cont=>exact False.elim hq
end
theorem bz.weak {P:Program}{w:World}{K:PySem.W.Frag}{mg:Str→Option Value}{base:Heap}{CX:wC}{k:Nat}{f:Addr}{fd:FuncData}{ps:List Str}{sp VJ:Sp}{Pt:Addr}{q:Str}{pos:Pos} (F:bz P w K mg base CX k f fd ps sp)
   (h:∀ vs H Q E,VJ vs H Q E→H Pt=some (.qp (di q pos))∧sp vs H (fun v H'=>(∃ c',H' Pt=some (.qp (di q pos ++ #[.ref c']))∧Q v (upd H' Pt (.qp (di q pos))))∨(H' Pt=some (.qp (di q pos))∧Q v H')) E):bz P w K mg base CX k f fd ps VJ:=by
 refine⟨fun vs H Q E z=>F.len _ _ _ _ (h vs H Q E z).2,fun A outer s H args us vs Q E hr e0 hb hv hs=>?_⟩
 obtain⟨hT,h2⟩:=h vs H Q E hs
 refine codeAny_mono (F.run A outer s H args us vs _ E hr e0 hb hv h2) fun r s' z=>?_
 cases r with
 | error e=>exact z
 | ok fl =>
   cases fl with
   | next=>exact z
   | brk=>exact z
   | cont=>exact z
   | ret u =>
     obtain⟨v,H',os,bare,un,hok,rv,z⟩:=z
     rcases z with ⟨c',hT',z⟩ | ⟨_,z⟩
     · have ne:∀ {b:Addr}{o:HO},H' b=some o→(∀ ps,o≠.qp ps)→b≠Pt:=fun {b o} e n=>by rintro rfl;rw [hT'] at e;cases e;exact n _ rfl
       have neH:∀ {b:Addr}{o:HO},H b=some o→(∀ ps,o≠.qp ps)→b≠Pt:=fun {b o} e n=>by rintro rfl;rw [hT] at e;cases e;exact n _ rfl
       refine⟨v,upd H' Pt (.qp (di q pos)),os,bare,⟨un.keep,un.slot,fun b o e n hx=>?_,un.there,fun b xs e=>?_,fun b o y e=>?_,fun b qs e=>?_⟩,fun b o e=>?_,rv,z⟩
       · rw [zG (by rintro rfl;rw [hT] at n;cases n)];exact un.free b o e n hx
       · rw [zG (neH e fun _ z=>by cases z)];exact un.tups b xs e
       · rw [zG (neH e fun _ z=>by cases z)];exact un.jW b o y e
       · by_cases hb:b=Pt
         · subst hb
           rw [hT] at e;cases e
           exact⟨#[],by rw [zB];simp⟩
         · rw [zG hb];exact un.j7 b qs e
       · by_cases hb:b=Pt
         · subst hb
           rw [zB] at e;cases e
           obtain⟨ts,g,d⟩:=hok _ _ hT'
           refine⟨ts,g,?_⟩
           rcases d with ⟨_,q',ln,cl,e⟩ | ⟨q',ln,cl,c2,e1,e2,e3,e4⟩
           · have e:=congrArg Array.toList e;simp [di] at e
           · rcases e2 with e | e
             · have e:=congrArg Array.toList e;simp [di] at e
             · have e:=congrArg Array.toList e
               simp [di] at e
               obtain⟨rfl,rfl,rfl,rfl⟩:=e
               exact .inr ⟨_,_,_,_,e1,.inl rfl,by rw [zG (ne e3 fun _ z=>by cases z)];exact e3,e4⟩
         · rw [zG hb] at e
           refine (hok b o e).stay (fun _ _ _ z=>z) (fun d z=>?_) fun d xs z=>?_
           · rw [zG (ne z fun _ y=>by cases y)];exact z
           · rw [zG (ne z fun _ y=>by cases y)];exact z
     · exact⟨v,H',os,bare,un,hok,rv,z⟩
def Kc (Pt:Addr) (ps:Array Value) (H:Hp):Prop:=H Pt=some (.qp ps)∧∀ b,b≠Pt→H b=none∨∃ o xs,H b=some (.ji o (.lst xs))
theorem HF {P:Program}{w:World}{K:PySem.W.Frag}{mg mb:Str→Option Value}{CX:wC}{k:Nat}{fa a:Addr}{fd:FuncData}{x:Str}{sp:Sp}{s₁:Shared}{vs:List Value}{ns:List Int}{c Pt:Addr}{ps:Array Value}
   (hps:∃ q ln cl,ps=#[.str q 0,ln,cl]) (KX:K.In s₁.heap) (hns:s₁.heap.Ns mainGlobals mg) (hb:s₁.heap.Ns builtinsNs mb) (hbb:∀ x:Str,x≠"__name__"→mb x=bootBuiltins x) (hlim:s₁.heap.NoLimit) (hg:s₁.gens=#[]) (hB:BMain mg s₁.heap)
   (hC:CodeHd s₁.heap c Pt) (hP:s₁.heap.get? Pt=some (tabObj #[])) (hKP:K.lookup Pt=none)
   (ha:s₁.heap.get? a=some { cls:=.type "list",data:=.seq vs.toArray }) (hi:IntsAre vs ns) (hl:ns.length≤sizeLine) (hr:dq k callerA)
   (F:∀ base:Heap,K.In base→base.Ns mainGlobals mg→BMain mg base→bz P w K mg base CX k fa fd [x] sp) (hbind:∀ (s:Shared) (u:Value),BindsTo s fd ⟨[u],[]⟩ [(x,u)])
   (hsp:∀ H:Hp,Kc Pt ps H→bQ K H a (ns.map V.int)→sp [.ref a] H (fun v _=>v=.bl true) fun _ _ _=>False)
   (hCX:∀ H e s',CX [] H s₁ (fun _ _ _=>False) e s'→False) :
   codeAny (model P w) callerA (.call (.ref fa) ⟨[.ref a],[]⟩) (fun r s'=>r=.ok (.ret (.bool true))∧OldK s₁.heap s'.heap∧s'.os=s₁.os∧AllBare s'.gens) s₁:=by
 have rv:=xR hi
 have lenV:=hi.length
 have naP:a≠Pt:=by rintro rfl;rw [ha] at hP;cases hP
 have core:∀ H:Hp,Kc Pt ps H→bQ K H a (ns.map V.int)→mW P w H s₁.heap→(∀ b,H b≠none→b=a∨b=Pt)→(H a≠none→K.lookup a=none) →
     codeAny (model P w) callerA (.call (.ref fa) ⟨[.ref a],[]⟩) (fun r s'=>r=.ok (.ret (.bool true))∧OldK s₁.heap s'.heap∧s'.os=s₁.os∧AllBare s'.gens) s₁:=by
   intro H hO hS hok hA hK
   have zf:∀ {b:Addr}{o:Obj},s₁.heap.get? b=some o→H b=none→(wG s₁.heap H).get? b=some o:=fun e n=>Iu e n
   have noB:∀ {b:Addr}{o:Obj},s₁.heap.get? b=some o→(∀ its n,o.data≠.seq its n)→(∀ vs,o.data≠.fields vs)→H b=none:=fun {b o} e d1 d2=>by
     cases q:H b with
     | none=>rfl
     | some u =>
       rcases hA b (by rw [q];simp) with e' | e'
       · subst e';rw [ha] at e;cases e;exact absurd rfl (d1 _ _)
       · subst e';rw [hP] at e;cases e;exact absurd rfl (d2 _)
   have MK:∀ {b:Addr}{o:Obj}{es:Array DictEntry}{ep:Nat},s₁.heap.get? b=some o→o.data=.dict es ep→H b=none:=fun {b o es ep} e d =>
     noB e (fun _ _ z=>by rw [d] at z;cases z) fun _ z=>by rw [d] at z;cases z
   have nsK:∀ {b:Addr}{m:Str→Option Value},s₁.heap.Ns b m→(wG s₁.heap H).Ns b m:=fun {b m} ⟨o,es,ep,e,d,r⟩=>⟨o,es,ep,zf e (MK e d),d,r⟩
   have hKb:K.In (wG s₁.heap H):=fun b o e=>zf (KX b o e) (by
     cases q:H b with
     | none=>rfl
     | some u =>
       rcases hA b (by rw [q];simp) with e' | e'
       · subst e'
         rw [hK (by rw [q];simp)] at e;cases e
       · subst e'
         rw [hKP] at e;cases e)
   have hBb:BMain mg (wG s₁.heap H):=by
     obtain⟨bm,ob,a1,a2,a3,a4,a5,a6⟩:=hB
     exact⟨bm,ob,a1,a2,zf a3 (noB a3 (fun _ _ z=>by rw [a6] at z;cases z) fun _ z=>by rw [a6] at z;cases z),a4,a5,a6⟩
   have hM:Mod K mg (wG s₁.heap H):=⟨hKb,nsK hns,⟨mb,nsK hb,hbb⟩,let ⟨mc,h1,h2⟩:=hlim; ⟨mc,nsK h1,h2⟩⟩
   have e0:qx P w K mg (wG s₁.heap H) callerA [] s₁ H:=⟨rfl,hM,fun b o e=>Ms e,Nat.le_of_eq (GZ _ _),trivial,fun b hb=>absurd (show b∈([]:List Addr) from hb) (by simp),hok,.of_eq hg⟩
   refine codeAny_mono ((F _ hKb (nsK hns) hBb).run callerA [] s₁ H ⟨[.ref a],[]⟩ [.ref a] [.ref a] _ _ hr e0 (hbind s₁ (.ref a)) (.cons rfl .nil) (hsp H hO hS)) fun r s' h=>?_
   cases r with
   | error e=>exact (hCX H e s' h).elim
   | ok fl =>
     cases fl with
     | next=>exact False.elim h
     | brk=>exact False.elim h
     | cont=>exact False.elim h
     | ret u =>
       obtain⟨v,H',os,bare,un,hok',r',q⟩:=h
       have q':v=.bl true:=q
       subst q'
       obtain rfl:u=Value.bool true:=r'
       obtain⟨more,hmore⟩:=un.j7 Pt _ hO.1
       obtain⟨ts',hP',_⟩:=hok' Pt _ hmore
       have keep:∀ b o,b≠Pt→s₁.heap.get? b=some o→s'.heap.get? b=some o:=fun b o hb e=>by
         cases q:H b with
         | none=>exact un.keep b o e q (by intro z;exact absurd (show b∈([]:List Addr) from z) (by simp)) (by simp)
         | some u =>
           rcases hO.2 b hb with z | ⟨ob,xs,z⟩
           · rw [q] at z;cases z
           · have z2:=un.jW b ob _ z
             obtain⟨e1,_⟩:=hok b _ z
             obtain⟨e2,_⟩:=hok' b _ z2
             rw [e] at e1;cases e1
             exact e2
       refine⟨rfl,⟨fun b o e=>?_,fun b o e=>?_⟩,os,bare⟩
       · by_cases hb:b=Pt
         · subst hb
           rw [hP] at e;cases e
           exact .inr (.inl ⟨(hC.tab hP).isCodeTable,rfl,#[],ts',rfl,by rw [Array.empty_append];exact hP'⟩)
         · exact .inl (keep b o hb e)
       · by_cases hb:b=Pt
         · subst hb;exact⟨_,hP'⟩
         · exact⟨o,keep b o hb e⟩
 cases hk:K.lookup a with
 | some o =>
   have e:=KX a o hk
   rw [ha] at e
   cases e
   refine core (fun b=>if b=Pt then some (.qp ps) else none) ⟨if_pos rfl,fun b hb=>.inl (if_neg hb)⟩ (.inr ⟨_,vs.toArray,_,hk,rfl,rfl,rfl,by rw [List.size_toArray,lenV];exact hl,by simpa using rv⟩) (fun b u z=>?_) (fun b z=>?_) fun z=>absurd (if_neg naP) z
   · by_cases hb:b=Pt
     · have z':=(if_pos hb).symm.trans z
       cases z'
       subst hb
       exact⟨#[],hP,.inl ⟨rfl,hps⟩⟩
     · have z':=(if_neg hb).symm.trans z
       cases z'
   · by_cases hb:b=Pt
     · exact .inr hb
     · exact absurd (if_neg hb) z
 | none =>
   refine core (fun b=>if b=Pt then some (.qp ps) else if b=a then some (.ji { cls:=.type "list",data:=.seq vs.toArray } (.lst (ns.map V.int))) else none) ⟨if_pos rfl,fun b hn=>?_⟩ (.inl (.inr ⟨{ cls:=.type "list",data:=.seq vs.toArray },(if_neg naP).trans (if_pos rfl)⟩)) (fun b u z=>?_) (fun b z=>?_) fun _=>hk
   · by_cases hb:b=a
     · exact .inr ⟨_,_,(if_neg hn).trans (if_pos hb)⟩
     · exact .inl ((if_neg hn).trans (if_neg hb))
   · by_cases hn:b=Pt
     · have z':=(if_pos hn).symm.trans z
       cases z'
       subst hn
       exact⟨#[],hP,.inl ⟨rfl,hps⟩⟩
     · by_cases hb:b=a
       · have z':=((if_neg hn).trans (if_pos hb)).symm.trans z
         cases z'
         subst hb
         exact⟨ha,by rw [List.length_map];exact hl,vs,_,rv,ha⟩
       · have z':=((if_neg hn).trans (if_neg hb)).symm.trans z
         cases z'
   · by_cases hn:b=Pt
     · exact .inr hn
     · by_cases hb:b=a
       · exact .inl hb
       · exact absurd ((if_neg hn).trans (if_neg hb)) z
theorem Kd {l:PySem.W.OpenLaw}{n k:Nat}{q:Program}{loose:List Str}{XP:(Str→Option Value)→Heap→Prop}{YP:World→Heap→Prop}{d:DefRec}{K:Params→PySem.W.Frag}{CX:World→wC}{sp:Addr→World→Sp}{x:Str}{ps:Array Value}
   (hps:∃ q ln cl,ps=#[.str q 0,ln,cl])
   (hn:l.most=some n) (hn2:n≤sizeLine) (hdf:d.params.defaults=[]) (hr:dq k callerA)
   (hY:∀ (w:World) (h:Heap),YP w h→(K w.params).In h)
   (F:∀ (w:World) (mg:Str→Option Value) (fa:Addr) (h:Heap),YP w h→(K w.params).In h→h.Ns mainGlobals mg→mg d.name=some (.ref fa) →
     ∃ (c Pt:Addr) (fd:FuncData),PySem.W.codeHdIn (K w.params) c Pt=true∧h.get? Pt=some (tabObj #[])∧(K w.params).lookup Pt=none∧(∀ (s:Shared) (u:Value),BindsTo s fd ⟨[u],[]⟩ [(x,u)]) ∧
       (∀ base:Heap,(K w.params).In base→base.Ns mainGlobals mg→BMain mg base→bz l.prog w (K w.params) mg base (CX w) k fa fd [x] (sp Pt w)))
   (hsp:∀ (Pt:Addr) (w:World) (H:Hp) (a:Addr) (ns:List Int),ns.length≤n→(∀ n∈ns,Builtin.Int.intBits n≤1048576)→Kc Pt ps H→bQ (K w.params) H a (ns.map V.int)→sp Pt w [.ref a] H (fun v _=>v=.bl true) fun _ _ _=>False)
   (hCX:∀ (w:World) (H:Hp) (s:Shared) (e:Value) (s':Shared),CX w [] H s (fun _ _ _=>False) e s'→False) :
   PySem.W.WalkO q loose XP YP l.row.toRowW d [] (fun f vs=>PySem.call f vs):=by
 refine Att.yx hn hdf fun w s₀ s₁ mg mb fa o pm cd doc a vs ns G Y ho hd hcd hmg hobj hints hlen We hg=>?_
 have KX:=hY w _ Y
 obtain⟨c,Pt,fd,h1,h2,h3,hb,hF⟩:=F w mg fa _ Y KX G.T.g hmg
 exact HF hps KX G.T.g G.T.b G.T.builtins G.T.nolimit hg G.T.bmain (PySem.W.codeHd_of_K KX h1) h2 h3 hobj hints (Nat.le_trans hlen hn2) hr hF hb (fun H hO hS=>hsp Pt w H a ns hlen We hO hS) fun H e s'=>hCX w H s₁ e s'
section
variable {P:Program}{w:World}{K:PySem.W.Frag}{mg:Str→Option Value}{base:Heap}
theorem iT.okC {x qual:Str}{st:Stmt}{f:Addr}{fd:FuncData}{N ps:List Str}{k:Nat}{sp:Sp} (F:iT K x qual st f fd) (S:aC N ps (aa st)) (len:∀ vs H Q E,sp vs H Q E→vs.length=ps.length)
   (hbody:∀ (cdv:Value) (A:Around) (outer:List Env) (s:Shared) (H:Hp) (vs:List V) (Q:VK) (E:XK),fd.code=cdv→dq k (A.deeper (envOfC qual (aa st) s.heap.objs.size f cdv))→sp vs H Q E →
     ∃ t,mO (yp bW P w K mg base N qual (aa st) f cdv A outer s H E).uT (ak st) t∧t { nx:=fun _ H'=>Q .non H',rt:=Q } (start N vs) H):bz P w K mg base bW (k+1) f fd ps sp:=by
 obtain⟨oc,od,kV,doc,pm,an,cdv,ct,osl,rfl,lk,hcd⟩:=F.ex
 refine Jl lk hcd S len fun A outer s H vs Q E hr hsp=>?_
 obtain⟨t,h,q⟩:=hbody cdv A outer s H vs Q E rfl hr hsp
 exact⟨t,h.uT,q⟩
end
end L2
namespace L2
open PySem PySem.Spec PyProof.Rows PySem.Calls
section
variable {X:Cx}
end
end L2
namespace L2
open PySem PySem.Spec PyProof.Rows PySem.Calls
section
variable {X:Cx}
end
end L2
namespace L2
open PySem PySem.Spec
theorem GC {X:Cx}{s:Stmt}:PS X s (fun _ _ _=>False):=fun _ _ _ _ _ _ h=>h.elim
end L2
namespace L2
open PySem PySem.Spec PyProof.Rows PySem.Calls
section
variable {X:Cx}
end
end L2
namespace L2
open PySem PySem.Spec PyProof.Rows PySem.Calls
section
variable {X:Cx}
theorem Wf {e:Expr}:PE X e (fun _ _ _=>False):=fun _ _ _ _ _ _ h=>h.elim
end
end L2
namespace L2
open PySem PySem.Spec PyProof.Rows PySem.Calls
section
variable {X:Cx}{scope:Scope}{x y:Str}{M:List Str}{tg elt iter:Expr}{ifs:List Expr}{pos p1 p2 p3:Pos}{kk:Nat}{te:TE}{wi:TI}{tc:TT}{g:TG}
theorem Ke {i:Nat}{z:Str}{spos py:Pos} (hN:X.N.Nodup) (hy:X.N[i]? = some z) (hl:Loc X.env.scope z) (K:jM X scope x y M) (hc:X.calm=true) (hi:PI X tg iter wi) (hg:∀ (C:Addr) (s₂:Shared) (H₂:Hp) (fp:List Addr),PG (cA X scope C x y M s₂ H₂ fp) tg g) (ht:∀ (C:Addr) (s₂:Shared) (H₂:Hp) (fp:List Addr),wI (cA X scope C x y M s₂ H₂ fp) ifs tc) (he:∀ (C:Addr) (s₂:Shared) (H₂:Hp) (fp:List Addr),PE (cA X scope C x y M s₂ H₂ fp) elt te)
   (hsw:swapsWith (.ListComp elt [⟨tg,iter,ifs,0⟩] scope pos) (some (.Name z py)) spos.line X.env=pure true)
   (hs:∀ x,foldedSetIterable iter X.env x=pure x) (hf:X.fn z=true∨X.env.scope.names.lookup z=some .local) :
   PS X (.Assign [.Name z py] (.ListComp elt [⟨tg,iter,ifs,0⟩] scope pos) spos) (Mx (J0 wi g tc te) (bB i)):=by
 intro pins s σ H Dn I h
 rw [exec_Assign_Name_used _ _ _ _ hsw]
 refine wpAny_bind (wpAny_standAt (wpAny_bind ?_))
 show wpAny _ X.A (do let _ ← comprehension (.ListComp elt [⟨tg,iter,ifs,0⟩] scope pos) scope X.env _ (newList []) false (eval iter X.env) (some (assign (.Name z py) X.env))) _ _ s
 refine wpAny_bind (dh (wpAny_comprehension_free (use:=some (assign (.Name z py) X.env)) (Q:=fun _ s'=>SP X pins Dn .next s') rfl hs (K.base.closure I.ok) K.base.kind K.base.names (dh (hi pins s σ H _ I h) fun v s1 h1=>dh h1 fun itv s2 h2=>?_)) fun _ s' hq=>wpAny_pure (wpAny_pure hq))
 obtain⟨it,fp,tn,J,H2,e,I2,T,st2,f2,n,W,hsz,w0,turn⟩:=h2
 subst e
 refine tQ (RR:=fun acc C=>compPost (model X.prog X.w) X.A X.xe (some (assign (.Name z py) X.env)) (fun _ s'=>SP X pins Dn .next s') acc C) K hc I2 hg ht he T st2 f2 hsz (F:=fun ys H=>∀ p,H p=none→Dn.nx (σ.set i (some (.ref p))) (upd H p (.lst ys))) w0 turn ?_
 intro D C s' H' ys m I' n' fC ns fin
 refine wpAny_assign_Name (xq (v:=.ref D) I' hN hy hl rfl (fun s'' I'' ch=>?_) hf)
 obtain⟨f0,f1,f2,f3,f4,f5⟩:=fC
 obtain⟨a,Rp,ha⟩:=ch
 have hCa:C≠a:=by
   rcases ha with z | z
   · rw [z];exact f1
   · exact Ne.symm (f4 _ a z)
 refine⟨m,ns.sameBut Rp hCa,fun h' sb=>?_⟩
 exact⟨_,_,I''.turned (t':=s''.toks) (it:=C) (fun b o hb e=>(sb.2 b hb).trans e) f0 f1 f3 f4 f5,fin D n'⟩
theorem Kf {i:Nat}{z:Str}{spos py:Pos} (hN:X.N.Nodup) (hy:X.N[i]? = some z) (hl:Loc X.env.scope z) (K:jM X scope x y M) (hc:X.calm=true) (hi:PI X (.Tuple [.Name x p1,.Name y p2] kk p3) iter wi) (ht:∀ (C:Addr) (s₂:Shared) (H₂:Hp) (fp:List Addr),wI (cA X scope C x y M s₂ H₂ fp) ifs tc) (he:∀ (C:Addr) (s₂:Shared) (H₂:Hp) (fp:List Addr),PE (cA X scope C x y M s₂ H₂ fp) elt te)
   (hsw:swapsWith (.ListComp elt [⟨.Tuple [.Name x p1,.Name y p2] kk p3,iter,ifs,0⟩] scope pos) (some (.Name z py)) spos.line X.env=pure true:=by rfl)
   (hs:∀ x,foldedSetIterable iter X.env x=pure x:=by intro _;rfl) (hf:X.fn z=true∨X.env.scope.names.lookup z=some .local:=by first | exact .inl rfl | exact .inr rfl | assumption) :
   PS X (.Assign [.Name z py] (.ListComp elt [⟨.Tuple [.Name x p1,.Name y p2] kk p3,iter,ifs,0⟩] scope pos) spos) (Mx (J3 X.K wi tc te) (bB i)):=by
 intro pins s σ H D I h
 have q:=Ke (pos:=pos) (spos:=spos) hN hy hl K hc (wi:=fun σ0 H0 R0=>∃ R,wi σ0 H0 R∧∀ J H1,R J H1→R0 J H1) (qD hi fun σ H R ⟨R1,a,b⟩=>⟨R1,a,b⟩) (fun C s₂ H₂ fp=>J4 (p1:=p1) (p2:=p2) (p3:=p3) (kk:=kk) K hc) ht he hsw hs hf pins s σ H D I
 refine q ⟨_,h,fun J H1 r=>?_⟩
 obtain⟨n,W,h1,h2,h3⟩:=r.ex
 refine⟨n,W,h1,h2,fun i ys H' hi hy hw=>?_⟩
 rcases h3 i ys H' hi hy hw with hq | ⟨g1,g2,g3⟩
 · exact .inl hq
 · refine .inr ⟨g1,g2,fun z H2 hz u v=>?_⟩
   obtain⟨p,a,b,e,hq,t⟩:=g3 z H2 hz
   exact⟨p,[a,b],e,hq,rfl,a,[b],rfl,b,[],rfl,rfl,⟨_,_,rfl⟩,t⟩
end
end L2
namespace L2
open PySem PySem.Spec PyProof.Rows PySem.Calls
end L2
namespace L2
open PySem PySem.Spec PyProof.Rows PySem.Calls
section
variable {X:Cx}{pins:List (Addr × Obj)}{σ:St}{H:Hp}{s:Shared}{h':Heap}
theorem Inv.GD {t':Nat}{L:List Addr} (I:Inv X pins σ H s) (k:∀ b o,b∉L→s.heap.get? b=some o→h'.get? b=some o) (hL:∀ b∈L,iz X pins H b):Inv X pins σ H { s with heap:=h',toks:=t' }:=by
 have Vo:∀ b u,H b=some u→b∉L:=fun b u e z=>by have:=(hL b z).1;rw [this] at e;cases e
 refine I.step (g':=s.gens) (d':=s.drawn) (ch:=L) (fun b hb=>?_) (fun b o _ _ hc e _=>k b o hc e) (fun b o _ _ hc e _=>⟨o.slots,k b o hc e⟩) (fun _ _ _ _ n=>n)
   (fun b o hc e=>⟨o,k b o hc e⟩) (fun _ _ e=>e) (fun _ _ _ e=>e) (fun b ps e=>⟨#[],by rw [e];simp⟩) (fun m hm=>?_) (fun b u e=>?_) I.bare
 · obtain⟨f0,f1,f2,f3,f4,f5⟩:=hL b hb
   exact⟨f3,f1,f4,f5⟩
 · obtain⟨o,es,ep,ho,r⟩:=hm
   exact⟨o,es,ep,k _ o (fun z=>(hL _ z).2.1 rfl) ho,r⟩
 · refine (I.hok b u e).stay (fun c v hc q=>k c v ?_ q) (fun _ q=>q) fun _ _ q=>q
   rcases hc with z | z
   · rw [z];exact Vo b u e
   · exact Vo c _ z
end
section
variable {X:Cx}{ea eb:Expr}{t:TA}{p pos tp:Pos}{elts:List Expr}{x1:Nat}
end
end L2
namespace L2
open PySem PySem.Spec PyProof.Rows PySem.Calls
end L2
namespace L2
open PySem PySem.Spec PyProof.Rows PySem.Calls
section
variable {X:Cx}{scope:Scope}{x:Str}{M:List Str}{pins:List (Addr × Obj)}{σ:St}{H₂:Hp}{s₂:Shared}{elt iter tg:Expr}{ifs:List Expr}{pos px:Pos}{te:TE}{wi:TI}{g:TG}{tc:TT}
def Ny (wi:TI) (g:TG) (tc:TT) (te:TE):TE:=fun σ H Q=>wi σ H fun J H1=>∃ (n:Nat) (W:Nat→List V→Hp→Prop),n≤sizeLine∧W 0 [] H1∧∀ i ys H,i≤n→ys.length≤i→W i ys H →
 (J.stop i H∧∀ p,H p=none→Q (.ref p) (upd H p (.lst ys)))∨(J.go i H∧i<n∧∀ x H',J.Be i H x H'→∀ u,g x (u::σ) H' fun ρ H2=>(∃ u',ρ=u'::σ)∧tc ρ H2 fun c H3=>if c=true then te ρ H3 fun z H4=>W (i+1) (ys++[z]) H4 else W (i+1) ys H3)
theorem BW (K:cu X scope x M) (hc:X.calm=true) (I:Inv X pins σ H₂ s₂) (hg:∀ (C:Addr) (s₂:Shared) (H₂:Hp) (fp:List Addr),PG (dI X scope C x M s₂ H₂ fp) tg g) (ht:∀ (C:Addr) (s₂:Shared) (H₂:Hp) (fp:List Addr),wI (dI X scope C x M s₂ H₂ fp) ifs tc) (he:∀ (C:Addr) (s₂:Shared) (H₂:Hp) (fp:List Addr),PE (dI X scope C x M s₂ H₂ fp) elt te)
   {it:Addr}{fp:List Addr}{tn:Nat→Heap→Prop}{J:It} (T:Turn X.prog X.w X.K tg J fp it tn) (st:tn 0 s₂.heap) (hf:∀ b∈fp,iz X pins H₂ b) {n:Nat} (hsz:n≤sizeLine) {W:Nat→List V→Hp→Prop}{F:List V→Hp→Prop}
   (w0:W 0 [] H₂) (turn:∀ i ys H,i≤n→ys.length≤i→W i ys H→(J.stop i H∧F ys H)∨(J.go i H∧i<n∧∀ x H',J.Be i H x H'→∀ u,g x (u::σ) H' fun ρ H2=>(∃ u',ρ=u'::σ)∧tc ρ H2 fun c H3=>if c=true then te ρ H3 fun z H4=>W (i+1) (ys++[z]) H4 else W (i+1) ys H3))
   {E:Value→Shared→Prop}{RR:Value→Addr→Result→Shared→Prop}
   (hRR:∀ (D C:Addr) (s':Shared) (H':Hp) (ys:List V) (m:Str→Option Value),Inv X pins σ (upd H' D (.lst ys)) s'→H' D=none→iz X pins (upd H' D (.lst ys)) C→s'.heap.Ns C m→F ys H'→RR (.ref D) C (.ok .next) s') :
   wpAny (model X.prog X.w) X.A (newList []) (fun acc s₃=>wpAny (model X.prog X.w) X.A (newFunctionEnv scope X.env.globals (fj X.env scope.names []) [] X.env.qual none .none (some X.env)) (fun cenv s₄ =>
     codeAny (model X.prog X.w) X.A (.compStart (.ListComp elt [⟨tg,iter,ifs,0⟩] scope pos) 0 (.ref it) acc { cenv with scope:=relabel scope X.env }) (RR acc cenv.locals) s₄) E s₃) E s₂:=by
 refine wpAny_newObj_type (wpAny_newFunctionEnv K.cell (by intro y hy;simp at hy) (fun h₁ hns₁ hsb₁=>?_) K.kind)
 dsimp only at hns₁ hsb₁ ⊢
 generalize hH2:s₂.heap.push { cls:=.type "list",dict:=none,data:=.seq ([]:List Value).toArray } = H2 at hns₁ hsb₁ ⊢
 have hC:H2.objs.size=s₂.heap.objs.size+1:=by rw [← hH2,Heap.size_push]
 have hDC:s₂.heap.objs.size≠H2.objs.size:=by rw [hC];exact Nat.ne_of_lt (Nat.lt_succ_self _)
 have below:∀ b,b<s₂.heap.objs.size→b≠H2.objs.size∧b≠s₂.heap.objs.size:=fun b hb=>⟨by rw [hC];exact Nat.ne_of_lt (Nat.lt_succ_of_lt hb),Nat.ne_of_lt hb⟩
 have hfl:∀ b∈fp,b<s₂.heap.objs.size:=fun b hb=>by obtain⟨o,e,_⟩:=T.obj _ _ st b hb;exact Heap.lt_size e
 have old:∀ b o,s₂.heap.get? b=some o→h₁.get? b=some o:=fun b o e=>hsb₁.extBut b o (below b (Heap.lt_size e)).1 (Heap.get?_push_of_some _ (hH2 ▸ Heap.get?_push_of_some _ e))
 have hacc:h₁.get? s₂.heap.objs.size=some { cls:=.type "list",data:=.seq ([]:List Value).toArray 0 }:=hsb₁.extBut _ _ hDC (Heap.get?_push_of_some _ (hH2 ▸ Heap.get?_push_size _ rfl))
 generalize hCC:H2.objs.size=C at *
 generalize pJ:s₂.heap.objs.size=D at *
 have hCle:s₂.heap.objs.size≤C:=by rw [pJ,hC];exact Nat.le_succ _
 have st₁:tn 0 h₁:=T.keep _ _ _ st fun b _ o e=>old b o e
 have I₁:=u0 (t:=s₂.toks+([]:List (Str × Value)).length) K I hf (fun b hb=>by rw [pJ];exact hfl b hb) hCle hns₁ old
 generalize hX':dI X scope C x M s₂ H₂ fp=X' at I₁
 have eX:X'.prog=X.prog∧X'.w=X.w∧X'.K=X.K∧X'.calm=true∧X'.A=X.A∧X'.ex=fp∧X'.env=compEnvC scope (fj X.env scope.names []) C X.env∧X'.s₀=s₂∧X'.pn=[]:=by
   subst hX';exact⟨rfl,rfl,rfl,hc,rfl,rfl,rfl,rfl,rfl⟩
 obtain⟨eP,ew,eK,ec,eA,V2,ud,PJ,Jw⟩:=eX
 have eL:X'.env.locals=C:=by rw [ud];rfl
 have cells':∀ y c,X'.env.cells.lookup y=some c→X.env.cells.lookup y=some c:=fun y c e=>by rw [ud] at e;exact cu.pI e
 have V3:X'.fs=frs X.stack:=by subst hX';rfl
 have qC:∀ b∈X'.fs,b=X.env.locals∨b∈X.fs:=fun b hb=>List.mem_cons.mp (I.rD b (by rw [← V3];exact hb))
 have vd:∀ {pn:List (Addr × Obj)}{H':Hp},(∀ p∈pn,p.1=D)→(∀ b∈fp,H' b=none)→∀ b∈fp,iz X' pn H' b:=fun {pn H'} hp hn b hb=>by
   refine⟨hn b hb,?_,fun z=>?_,.inl (by rw [V2];exact hb),fun y c e=>(hf b hb).2.2.2.2.1 y c (cells' y c e),fun p hq=>?_⟩
   · rw [eL];exact (below b (hfl b hb)).1
   · rcases qC b z with q | q
     · exact (hf b hb).2.1 q
     · exact (hf b hb).2.2.1 q
   · rw [Jw,List.nil_append] at hq
     rw [hp p hq];exact Ne.symm (below b (hfl b hb)).2
 have V4:D∉fp:=fun z=>Nat.lt_irrefl _ (hfl D z)
 have Bp:X.env.locals<D:=by have:=I.lt;rw [pJ] at this;exact this
 have Jx:∀ b∈X.fs,b<D:=fun b hb=>Nat.lt_of_not_le fun z=>I.Mv (a:=b) (by rw [pJ];exact z) hb
 have Bq:∀ {b:Addr}{pn:List (Addr × Obj)}{H':Hp},D≤b→b≠C→H' b=none→(∀ p∈pn,p.1≠b)→iz X' pn H' b:=fun {b pn H'} hb hbC hn hp=>by
   refine⟨hn,by rw [eL];exact hbC,fun z=>?_,.inr (by rw [PJ,pJ];exact hb),fun y c e=>?_,fun p hq=>?_⟩
   · rcases qC b z with q | q
     · rw [q] at hb;exact absurd (Nat.lt_of_lt_of_le Bp hb) (Nat.lt_irrefl _)
     · exact absurd (Nat.lt_of_lt_of_le (Jx b q) hb) (Nat.lt_irrefl _)
   · obtain⟨v,o,ho,_⟩:=I.cell y c (cells' y c e)
     have:=Heap.lt_size ho
     rw [pJ] at this
     exact Nat.ne_of_lt (Nat.lt_of_lt_of_le this hb)
   · rw [Jw,List.nil_append] at hq
     exact hp p hq
 have outer:∀ {σ':St}{H':Hp}{s':Shared}{pn:List (Addr × Obj)},Inv X' pn σ' H' s'→Inv X pins σ H' s':=fun {σ' H' s' pn} J'=>by
   subst hX'
   refine I.call' (ch:=fp) J'.os J'.base J'.hok J'.bare fun b hb=>?_
   obtain⟨f0,f1,f2,f3,f4,f5⟩:=hf b hb
   exact⟨f3,f1,f4,f5⟩
 have tO:∀ {b:Addr}{H':Hp},D≤b→H' b=none→iz X pins H' b:=fun {b H'} hb hn=>by
   have q:=I.yj (H':=H') (b:=b) (by rw [pJ];exact hb) hn
   exact q
 have loop:∀ s₃:Shared,s₃={ s₂ with heap:=h₁,toks:=s₂.toks+([]:List (Str × Value)).length } →
     codeAny (model X.prog X.w) X.A (.compLoop (.ListComp elt [⟨tg,iter,ifs,0⟩] scope pos) 0 (.ref it) (.ref D) (compEnvC scope (fj X.env scope.names []) C X.env)) (RR (.ref D) C) s₃:=by
   rintro s₃ rfl
   refine qH (fun k s'=>∃ (i:Nat) (ys:List V) (its:List Value) (σ0:Option V) (H':Hp),i≤n∧k=n+1 - i∧ys.length≤i∧Inv X' [] (σ0::σ) H' s'∧tn i s'.heap∧(∀ b∈fp,H' b=none)∧H' D=none∧Vals ys its ∧
     (∃ c,s'.heap.get? D=some { cls:=.type "list",data:=.seq its.toArray c })∧W i ys H') ?_ (n+1) ⟨0,[],[],none,H₂,Nat.zero_le _,rfl,Nat.le_refl _,I₁,st₁,fun b hb=>(hf b hb).1,by rw [← pJ];exact I.hok.fresh (Nat.le_refl _),.nil,⟨0,hacc⟩,w0⟩
   rintro k s' ⟨i,ys,its,σ0,H',hi,rfl,hyl,I',st',fr',hD',rv,⟨c,hobj⟩,w'⟩
   rcases turn i ys H' hi hyl w' with ⟨stop,fin⟩ | ⟨go,hlt,step⟩
   · have vf:Inv X' [(D,{ cls:=.type "list",data:=.seq its.toArray c })] (σ0::σ) H' s':=I'.dY fun p hp=>by
       obtain rfl:p=(D,{ cls:=.type "list",data:=.seq its.toArray c }):=by simpa using hp
       refine⟨hobj,hD',?_,?_,fun v z=>nomatch z⟩
       · rw [eL];exact hDC
       · intro z
         rcases qC D z with q | q
         · rw [q] at Bp;exact Nat.lt_irrefl _ Bp
         · exact Nat.lt_irrefl _ (Jx D q)
     have q:=T.done X' eP ew eK ec i _ s' (σ0::σ) H' (notedBy (model X.prog X.w) X.A (compEnvC scope (fj X.env scope.names []) C X.env) fun e s'=>RR (.ref D) C (.error e) s') vf (vd (fun p hp=>by obtain rfl:p=(D,{ cls:=.type "list",data:=.seq its.toArray c }):=(by simpa using hp);rfl) fr') st' stop
     rw [eA] at q
     refine wpAny_mono q (fun r s4 ⟨hr,I4⟩=>?_) fun _ _ z=>z
     subst hr
     obtain⟨e4,n4,_⟩:=I4.pin (D,{ cls:=.type "list",data:=.seq its.toArray c }) (List.mem_append_right _ (by simp))
     have O4:=outer I4
     obtain⟨m4,PK,_⟩:=I4.loc
     rw [eL] at PK
     refine hRR D C s4 H' ys m4 (O4.track (tO (Nat.le_refl _) n4) (Nat.le_trans I.sz (by rw [pJ];exact Nat.le_refl _)) ⟨Nat.le_trans hyl (Nat.le_trans hi hsz),its,c,rv,e4⟩) n4 (tO (by rw [hC];exact Nat.le_succ _) ?_) PK fin
     rw [zG (Ne.symm hDC)]
     have:=I4.free
     rw [eL] at this
     exact this
   · have vf:Inv X' [(D,{ cls:=.type "list",data:=.seq its.toArray c })] (σ0::σ) H' s':=I'.dY fun p hp=>by
       obtain rfl:p=(D,{ cls:=.type "list",data:=.seq its.toArray c }):=by simpa using hp
       refine⟨hobj,hD',?_,?_,fun v z=>nomatch z⟩
       · rw [eL];exact hDC
       · intro z
         rcases qC D z with q | q
         · rw [q] at Bp;exact Nat.lt_irrefl _ Bp
         · exact Nat.lt_irrefl _ (Jx D q)
     have pd:∀ p∈[(D,({ cls:=.type "list",data:=.seq its.toArray c }:Obj))],p.1=D:=fun p hp=>by obtain rfl:p=(D,{ cls:=.type "list",data:=.seq its.toArray c }):=(by simpa using hp);rfl
     have q:=T.item X' eP ew eK ec i _ s' (σ0::σ) H' (notedBy (model X.prog X.w) X.A (compEnvC scope (fj X.env scope.names []) C X.env) fun e s'=>RR (.ref D) C (.error e) s') vf (vd pd fr') st' go
     rw [eA] at q
     refine wpAny_mono q (fun r s4 ⟨u,hr,h4⟩=>?_) fun _ _ z=>z
     subst hr
     refine wpAny_mono h4 (fun _ s5 ⟨xv,H5,I5,r5,y5,yl,QM⟩=>?_) fun _ _ z=>z
     have QQ:=I5.pinned (vd pd QM) (T.obj _ _ yl)
     rw [← ud]
     have g6:=step xv H5 y5 σ0
     have q6:=(hg C s₂ H₂ fp) (([(D,({ cls:=.type "list",data:=.seq its.toArray c }:Obj))])++kZ fp s5.heap) s5 (σ0::σ) H5 xv u _ (by rw [hX'];exact QQ) r5 g6
     rw [hX',eP,ew,eA] at q6
     refine wpAny_mono q6 (fun _ s6 ⟨ρ,H6,I6,⟨u',eρ⟩,t6⟩=>?_) (fun _ _ z=>by subst hX';exact (show False from z).elim)
     subst eρ
     have q7:=(ht C s₂ H₂ fp) _ s6 (u'::σ) H6 _ (by rw [hX'];exact I6) t6
     rw [hX',eP,ew,eA] at q7
     refine wpAny_mono q7 (fun ok s7 ⟨H7,I7,w7⟩=>?_) (fun _ _ z=>by subst hX';exact (show False from z).elim)
     have Wb:∀ {s8:Shared}{H8:Hp}{pn:List (Addr × Obj)},Inv X' (pn++(([(D,({ cls:=.type "list",data:=.seq its.toArray c }:Obj))])++kZ fp s5.heap)) (u'::σ) H8 s8→True:=fun _=>trivial
     cases ok with
     | false =>
       obtain⟨e7,n7,_⟩:=I7.pin (D,{ cls:=.type "list",data:=.seq its.toArray c }) (List.mem_append_right _ (List.mem_append_left _ (by simp)))
       refine⟨n+1 - (i+1),by omega,i+1,ys,its,u',H7,hlt,rfl,Nat.le_succ_of_le hyl,I7.dY (uP:=[]) fun p hp=>absurd hp (by simp),?_,fun b hb=>?_,n7,rv,⟨c,e7⟩,w7⟩
       · refine T.keep _ _ _ yl fun b hb o e=>?_
         exact (I7.pin (b,o) (List.mem_append_right _ (List.mem_append_right _ (yK hb e)))).1
       · obtain⟨o,e,d⟩:=T.obj _ _ yl b hb
         exact (I7.pin (b,o) (List.mem_append_right _ (List.mem_append_right _ (yK hb e)))).2.1
     | true =>
       have q8:=(he C s₂ H₂ fp) _ s7 (u'::σ) H7 (fun z Ay=>W (i+1) (ys++[z]) Ay) (by rw [hX'];exact I7) w7
       rw [hX',eP,ew,eA] at q8
       refine wpAny_mono q8 (fun u8 s8 ⟨v8,H8,I8,r8,w8⟩=>?_) (fun _ _ z=>by subst hX';exact (show False from z).elim)
       obtain⟨e7,n7,_⟩:=I8.pin (D,{ cls:=.type "list",data:=.seq its.toArray c }) (List.mem_append_right _ (List.mem_append_left _ (by simp)))
       refine append_at (hsz:=by rw [List.size_toArray,← rv.length];exact Nat.le_trans hyl (Nat.le_trans hi hsz)) e7 fun h8 PL g8=>?_
       have I9:Inv X' [] (u'::σ) H8 { s8 with heap:=h8,toks:=s8.toks }:=(I8.dY (uP:=[]) fun p hp=>absurd hp (by simp)).turned (t':=s8.toks) (it:=D) (fun b o hb e=>(PL.2 b hb).trans e) n7 (by rw [eL];exact hDC) (.inr (by rw [PJ,pJ];exact Nat.le_refl _))
         (Bq (H':=H8) (pn:=[]) (Nat.le_refl _) hDC n7 (fun p hp=>absurd hp (by simp))).2.2.2.2.1 (fun p hp=>by rw [Jw] at hp;exact absurd hp (by simp))
       refine⟨n+1 - (i+1),by omega,i+1,ys++[v8],its++[u8],u',H8,hlt,rfl,by rw [List.length_append,List.length_singleton];omega,I9,?_,fun b hb=>?_,n7,rv.append (.cons r8 .nil),⟨c+1,?_⟩,w8⟩
       · refine T.keep _ _ _ yl fun b hb o e=>?_
         have e':=(I8.pin (b,o) (List.mem_append_right _ (List.mem_append_right _ (yK hb e)))).1
         exact (PL.2 b (fun z=>V4 (z ▸ hb))).trans e'
       · obtain⟨o,e,d⟩:=T.obj _ _ yl b hb
         exact (I8.pin (b,o) (List.mem_append_right _ (List.mem_append_right _ (yK hb e)))).2.1
       · rw [g8,List.push_toArray]
 exact codeAny_compStart_list (loop _ rfl) (T.self X.A 0 _ _ _ st₁ (loop _ rfl))
theorem HH (K:cu X scope x M) (hc:X.calm=true) (hi:PI X tg iter wi) (hg:∀ (C:Addr) (s₂:Shared) (H₂:Hp) (fp:List Addr),PG (dI X scope C x M s₂ H₂ fp) tg g) (ht:∀ (C:Addr) (s₂:Shared) (H₂:Hp) (fp:List Addr),wI (dI X scope C x M s₂ H₂ fp) ifs tc) (he:∀ (C:Addr) (s₂:Shared) (H₂:Hp) (fp:List Addr),PE (dI X scope C x M s₂ H₂ fp) elt te)
   (hs:∀ x,foldedSetIterable iter X.env x=pure x:=by intro _;rfl):PE X (.ListComp elt [⟨tg,iter,ifs,0⟩] scope pos) (Ny wi g tc te):=by
 intro pins s σ H Q I h
 rw [eval_ListComp]
 refine wpAny_comprehension_free (use:=none) rfl hs (K.closure I.ok) K.kind K.names (dh (hi pins s σ H _ I h) fun v s1 h1=>dh h1 fun itv s2 h2=>?_)
 obtain⟨it,fp,tn,J,H2,e,I2,T,st2,f2,n,W,hsz,w0,turn⟩:=h2
 subst e
 refine BW (RR:=fun acc C=>compPost (model X.prog X.w) X.A X.xe none (EP X pins σ Q) acc C) K hc I2 hg ht he T st2 f2 hsz (F:=fun ys H=>∀ p,H p=none→Q (.ref p) (upd H p (.lst ys))) w0 turn ?_
 intro D C s' H' ys m I' n' fC ns fin
 refine⟨m,ns,fun h' sb=>?_⟩
 obtain⟨f0,f1,f2,f3,f4,f5⟩:=fC
 exact⟨.ref D,_,I'.turned (t':=s'.toks) (it:=C) (fun b o hb e=>(sb.2 b hb).trans e) f0 f1 f3 f4 f5,rfl,fin D n'⟩
structure Kg (J:It) (tc:TT) (te:TE) (σ:St) (H1:Hp) (Q:VK):Prop where
 ex:∃ (n:Nat) (W:Nat→List V→Hp→Prop),n≤sizeLine∧W 0 [] H1∧∀ i ys H,i≤n→ys.length≤i→W i ys H →
   (J.stop i H∧∀ p,H p=none→Q (.ref p) (upd H p (.lst ys)))∨(J.go i H∧i<n∧∀ z H',J.Be i H z H'→tc (some z::σ) H' fun c H3=>if c=true then te (some z::σ) H3 fun z H4=>W (i+1) (ys++[z]) H4 else W (i+1) ys H3)
def Rq (wi:TI) (tc:TT) (te:TE):TE:=fun σ H Q=>wi σ H fun J H1=>Kg J tc te σ H1 Q
theorem Nz (K:cu X scope x M) {C:Addr}{s₂:Shared}{H₂:Hp}{fp:List Addr}:PG (dI X scope C x M s₂ H₂ fp) (.Name x px) (bB 0) :=
 zQ K.nd rfl (.inl (lookup_relabel_local K.loc)) (.inr (lookup_relabel_local K.loc))
theorem Kh (K:cu X scope x M) (hc:X.calm=true) (hi:PI X (.Name x px) iter wi) (ht:∀ (C:Addr) (s₂:Shared) (H₂:Hp) (fp:List Addr),wI (dI X scope C x M s₂ H₂ fp) ifs tc) (he:∀ (C:Addr) (s₂:Shared) (H₂:Hp) (fp:List Addr),PE (dI X scope C x M s₂ H₂ fp) elt te)
   (hs:∀ x,foldedSetIterable iter X.env x=pure x:=by intro _;rfl):PE X (.ListComp elt [⟨.Name x px,iter,ifs,0⟩] scope pos) (Rq wi tc te):=by
 intro pins s σ H Q I h
 have q:=HH (pos:=pos) K hc (wi:=fun σ0 H0 R0=>∃ R,wi σ0 H0 R∧∀ J H1,R J H1→R0 J H1) (qD hi fun σ H R ⟨R1,a,b⟩=>⟨R1,a,b⟩) (fun C s₂ H₂ fp=>Nz (px:=px) K) ht he hs pins s σ H Q I
 refine q ⟨_,h,fun J H1 r=>?_⟩
 obtain⟨n,W,h1,h2,h3⟩:=r.ex
 refine⟨n,W,h1,h2,fun i ys H' hi hy hw=>?_⟩
 rcases h3 i ys H' hi hy hw with hq | ⟨g1,g2,g3⟩
 · exact .inl hq
 · exact .inr ⟨g1,g2,fun z H2 hz u=>⟨⟨_,rfl⟩,g3 z H2 hz⟩⟩
end
section
variable {X:Cx}{k:Nat}{m:Str}{pos apos:Pos}{o:Expr}{ta:TE}
end
end L2
namespace L2
open PySem PySem.Spec PyProof.Rows PySem.Calls
def Ite (K:PySem.W.Frag) (a:Addr):It :=
 ⟨fun i H=>∃ xs x,bQ K H a xs∧xs[i]? = some x,
  fun i H z H'=>∃ T x,z=.ref T∧H T=none∧H'=upd H T (.tup [.int i,x])∧∀ xs,bQ K H a xs→xs[i]? = some x,
  fun i H=>∃ xs,bQ K H a xs∧xs.length≤i⟩
def EnT (e it a:Addr) (i:Nat) (h:Heap):Prop:=(∃ old,IsEnum h e it i old)∧h.IsListIter it a i
theorem HJ {P:Program}{w:World}{K:PySem.W.Frag}{elts:List Expr}{x1:Nat}{tp:Pos}{e it a:Addr} (D:e≠it):Turn P w K (.Tuple elts x1 tp) (Ite K a) [e,it] e (EnT e it a) where
 mem:=by simp
 obj:=fun i h st c hc=>by
   obtain⟨⟨u,h1⟩,h4⟩:=st
   simp only [List.mem_cons,List.not_mem_nil,or_false] at hc
   rcases hc with q | q
   · subst q;exact⟨_,h1,fun v q=>by cases q⟩
   · subst q;obtain⟨o,e,c,d⟩:=h4;exact⟨o,e,fun v q=>by rw [d] at q;cases q⟩
 keep:=fun i h h' st k=>by
   obtain⟨⟨u,h1⟩,h4⟩:=st
   exact⟨⟨u,k _ (by simp) _ h1⟩,h4.at fun o q=>k it (by simp) o q⟩
 item:=by
   intro X hP hw hK hc i pins s σ H E I hf st hg
   subst hP hw hK
   obtain⟨xs,x,hq,hx⟩:=hg
   obtain⟨⟨old,h1⟩,h4⟩:=st
   obtain⟨its,rv,p,hz⟩:=I.list hq
   obtain⟨u,hu,ru⟩:=rv.get hx
   refine wpAny_pyNext_enum_item h1 h4 p.isList (x:=u) (by simpa using hu) D fun h' a1 a2 a3 a4 a5=>?_
   refine⟨_,rfl,wpAny_letOwnedTupleGo_enum (s:={ s with heap:=h',toks:=s.toks+1 }) a1 fun h'' b1 b2=>?_⟩
   have hT:H s.heap.objs.size=none:=I.hok.fresh (Nat.le_refl _)
   have lt:∀ c∈[e,it],c<s.heap.objs.size:=fun c hc=>by
     simp only [List.mem_cons,List.not_mem_nil,or_false] at hc
     rcases hc with q | q
     · subst q;exact Heap.lt_size h1
     · subst q;obtain⟨o,q,_⟩:=h4;exact Heap.lt_size q
   have kk:∀ c o,c∉[e,it]→s.heap.get? c=some o→h''.get? c=some o:=fun c o hc q=>by
     simp only [List.mem_cons,List.not_mem_nil,or_false,not_or] at hc
     exact (b2.2 c hc.1).trans (a5 c o hc.1 hc.2 q)
   have I1:Inv X pins σ H { s with heap:=h'',toks:=s.toks+1 }:=I.GD (t':=s.toks+1) kk hf
   have zT:s.heap.objs.size≠e:=fun q=>Nat.lt_irrefl _ (q ▸ lt e (by simp))
   have a5':=(b2.2 _ zT).trans a3
   have I2:=I1.track (a:=s.heap.objs.size) (o:=.tup [.int i,x]) (I.yj (Nat.le_refl _) hT) I.sz ⟨by show 2≤sizeLine;decide,[.int i s.toks,u],.cons ⟨_,rfl⟩ (.cons ru .nil),⟨_,a5',rfl,_,rfl⟩⟩
   refine⟨.ref s.heap.objs.size,_,I2,rfl,⟨_,x,rfl,hT,rfl,fun zs hzs=>by rw [I.Bd hzs hq];exact hx⟩,⟨⟨_,b1⟩,a2.at fun o q=>(b2.2 _ (Ne.symm D)).trans q⟩,fun c hc=>?_⟩
   rw [zG (Nat.ne_of_lt (lt c hc))];exact (hf c hc).1
 done:=by
   intro X hP hw hK hc i pins s σ H E I hf st hg
   subst hP hw hK
   obtain⟨xs,hq,hx⟩:=hg
   obtain⟨⟨old,h1⟩,h4⟩:=st
   obtain⟨its,rv,p,hz⟩:=I.list hq
   have hl:=rv.length
   refine wpAny_pyNext_enum_end (I.ok.hd hc) h1 h4 p.isList (by simp;omega) fun h' a7=>⟨rfl,I.GD (t':=s.toks) (fun c o hc q=>?_) hf⟩
   simp only [List.mem_cons,List.not_mem_nil,or_false,not_or] at hc
   exact a7 c o hc.2 q
 self:=fun _ _ _ _ _ st h=>by
   obtain⟨⟨u,h1⟩,_⟩:=st
   exact wpAny_pyIter_enum h1 h
section
variable {X:Cx}{ea:Expr}{t:TA}{p pos tp:Pos}{elts:List Expr}{x1:Nat}
def Wg (K:PySem.W.Frag) (t:TA):TI:=fun σ H R=>t σ H fun vs H1=>∃ a,vs=[.ref a]∧(∃ xs,bQ K H1 a xs)∧R (Ite K a) H1
theorem HN:bootBuiltins "enumerate" = some (.type "enumerate"):=by symm
theorem zg (hg:Gl X "enumerate") (hm:X.mg "enumerate" = none) (ha:PA X [ea] t) (hs:starEach [ea] X.env=[(false,eval ea X.env)]:=by rfl) :
   PI X (.Tuple elts x1 tp) (.Call (.Name "enumerate" p) [ea] [] pos) (Wg X.K t):=by
 intro pins s σ H R I h
 refine Call_ (uR I hg hm HN (PyProof.Rows.callWith_type1 (dh (ha pos pins s σ H _ I h) fun us s1 zq=>?_) (by rw [hs];rfl) (by rfl)))
 obtain⟨vs,H1,I1,r1,q1⟩:=zq
 obtain⟨a,e,⟨xs,hq⟩,q⟩:=q1
 subst e
 cases r1 with
 | cons r rr =>
   cases rr
   cases r
   obtain⟨its,rv,pl,hz⟩:=I1.list hq
   refine call_enumerate_list pl.isList fun h' z1 z2 z3 z7=>?_
   refine wpAny_pyIter_enum (s:={ s1 with heap:=h' }) z1 ?_
   have I2:Inv X pins σ H1 { s1 with heap:=h' }:=I1.kept (t':=s1.toks) z7
   refine⟨_,[s1.heap.objs.size+1,s1.heap.objs.size],_,_,H1,rfl,I2,HJ (Nat.succ_ne_self _),⟨⟨_,z1⟩,z2⟩,fun c hc=>?_,q⟩
   have hle:s1.heap.objs.size≤c:=by
     simp only [List.mem_cons,List.not_mem_nil,or_false] at hc
     rcases hc with e | e
     · rw [e];exact Nat.le_succ _
     · rw [e];exact Nat.le_refl _
   exact I1.yj hle (I1.hok.fresh hle)
end
theorem rN {K:PySem.W.Frag}{a:Addr}{xs:List V}{g:TG}{tb:TS}{D:Ends}{σ:St}{H:Hp} (Pv:Nat→St→Hp→Prop) (h0:Pv 0 σ H) (hq:∀ i σ H,i≤xs.length→Pv i σ H→bQ K H a xs)
   (hs:∀ i x σ H,xs[i]? = some x→Pv i σ H→∀ T,H T=none→g (.ref T) σ (upd H T (.tup [.int i,x])) fun σ2 H2=>tb { D with nx:=Pv (i+1),ct:=Pv (i+1),bk:=D.nx } σ2 H2) (hd:∀ σ H,Pv xs.length σ H→D.nx σ H):Ng (Ite K a) g tb D σ H:=by
 refine⟨fun i m σ H=>i≤xs.length∧m=xs.length - i∧Pv i σ H,⟨_,Nat.zero_le _,rfl,h0⟩,fun i m σ H ⟨hi,hm,hp⟩=>?_⟩
 have q1:=hq i σ H hi hp
 by_cases c:i=xs.length
 · subst c
   exact .inl ⟨⟨xs,q1,Nat.le_refl _⟩,hd σ H hp⟩
 · have hlt:i<xs.length:=by omega
   have hx:xs[i]? = some xs[i]:=List.getElem?_eq_getElem hlt
   refine .inr ⟨⟨xs,_,q1,hx⟩,Pv (i+1),fun σ' H' hn=>⟨xs.length - (i+1),by omega,by omega,rfl,hn⟩,fun z H' hz=>?_⟩
   obtain⟨T,x,rfl,hT,rfl,e1⟩:=hz
   exact hs i x σ H (e1 xs q1) hp T hT
end L2
namespace L2
open PySem PySem.Spec PyProof.Rows PySem.Calls
section
variable {X:Cx}
theorem NB (hu:X.A.units+1<cLine):iB X (compareOp .In) (fun x y H Q=>∃ a o,y=.ref a∧fX H a x o∧Q (.bl o.isSome) H):=by
 intro pins s σ H x y v u Q I rx ry h
 obtain⟨a,o,rfl,g,q⟩:=h
 cases ry
 exact aeR hu I g rx fun s' I'=>⟨.bl _,H,I',rfl,q⟩
theorem pR (hu:X.A.units+1<cLine):iB X (compareOp .NotIn) (fun x y H Q=>∃ a o,y=.ref a∧fX H a x o∧Q (.bl (!o.isSome)) H):=by
 intro pins s σ H x y v u Q I rx ry h
 obtain⟨a,o,rfl,g,q⟩:=h
 cases ry
 exact M7 hu I g rx fun s' I'=>⟨.bl _,H,I',rfl,q⟩
end
theorem NK:typeLookup (.type "list") "keys" = pure none:=by rw [typeLookup_type,builtinLookup_eq_fast];kernel_rfl
theorem BX {prog:Program}{w:World}{A:Around}{E:Value→Shared→Prop}{s:Shared}{a:Addr}{xs:Array Value}{k:Nat}{sl:Array (Option Value)}{Q:Option Value→Shared→Prop}
   (hx:s.heap.get? a=some ⟨.type "list",none,.seq xs k,sl⟩) (hA:A.handled=none) (h:∀ h' tk e,Heap.NewExcOf s.heap h' e "AttributeError"→Q none { s with heap:=h',toks:=tk }) :
   wpAny (model prog w) A (getAttr? (.ref a) "keys") Q E s:=by
 obtain⟨hp,g,d,tk,os⟩:=s
 have ty:∀ j,(⟨hp,g,d,j,os⟩:Shared).TypeIs (.ref a) "list":=fun _=>⟨_,hx,rfl⟩
 have a1:=sub_AttributeError
 have a3:=PySem.F.slot_list_getattribute.lookup
 have a4:=PySem.F.slot_list_getattribute.bind (.ref a)
 have a5:=am_list_getattr_none
 unfold getAttr? getAttrBy? getAttrBy
 repeat (any_goals (first
   | assumption
   | exact ty _
   | ((with_reducible show wpAny _ _ (call (Value.builtin "list.__getattribute__") _ _) _ _ _)
      refine call_meets PySem.F.slot_list_getattribute (ty _) am_entry_list_getattribute (PySem.F.args_list_getattribute_2 _ _) (meets_getattribute_miss_list a xs k sl "keys" _ NK (by decide) (by size_fits)) ⟨hx,hA,fun h' tk' e hx'=>?_⟩)
   | wp_step))
 obtain⟨t',u',he⟩:=hx'.there
 show wpAny _ _ (getattributeRaised _ _ _ _ _ _ _) _ _ _
 unfold getattributeRaised hookOrError
 repeat (any_goals (first | assumption | wp_step))
 exact h _ _ _ hx'.of
theorem vA:entryFor table "dict.update.loop" = some Builtin.«dict.update.loop»:=entryFor_of_tree (by kernel_rfl)
theorem wJ {X:Cx} (hc:X.calm=true):cZ X (.type "dict") (fun xs H Q=>∃ p,xs=[.ref p]∧H p=some (.lst [])∧∀ d,H d=none→Q (.ref d) (upd H d (.dK []))):=by
 intro pins s σ H xs us Q I r h
 obtain⟨p,rfl,hp,q⟩:=h
 obtain⟨u,rfl,ru⟩:=r.one
 cases ru
 obtain⟨_,its,n,rv,ho⟩:=(show bC X.prog X.w H s.heap p (.lst []) from I.hok p _ hp)
 cases rv
 have big:=I.big
 have hand:X.A.handled=none:=I.ok.hd hc
 refine callType_codes (Q₁:=fun obj s₁=>obj=.ref s.heap.objs.size∧s₁={ s with heap:=s.heap.push { cls:=.type "dict",data:=.dict #[] } }) PySem.F.kt_called_dict (PySem.F.kt_typeCall_dict_1 _) PySem.F.entry_dict_init (kt_code_dict_new _ ⟨rfl,rfl⟩) ?_
 rintro obj s₁ ⟨rfl,rfl⟩
 have new:(s.heap.push { cls:=.type "dict",data:=.dict #[] }).DictOf (aO X.prog X.w) s.heap.objs.size []:=Heap.DictOf.new s.heap
 refine⟨new.typeIs,PySem.F.args_dict_init_2 _ _,?_⟩
 unfold Builtin.«dict.__init__» Builtin.Dict.selfAndRest
 refine wpAny_bind (wpAny_bind (wpAny_notOrdered_dict new.typeIs ?_))
 show wpAny _ _ (pure (s.heap.objs.size,[Value.ref p])) _ _ _
 refine wpAny_pure ?_
 show wpAny _ _ (Builtin.Dict.updateFrom "dict.__init__" _ (.ref p) [] .none) _ _ _
 unfold Builtin.Dict.updateFrom
 have ho1:=Heap.get?_push_of_some { cls:=.type "dict",data:=.dict #[] } ho
 refine wpAny_bind (wpAny_typeOf (T:="list") ⟨_,ho1,rfl⟩ ?_)
 rw [if_pos (by decide)]
 refine wpAny_bind (BX ho1 (show X.A.in1.in1.handled=none from hand) fun h1 tk1 e1 x1=>?_)
 rw [if_pos (by rfl)]
 have ho2:=x1.keeps _ _ ho1
 have hl2:h1.IsList p #[]:=⟨_,ho2,rfl,n,rfl⟩
 refine wpAny_bind (wpAny_rule (wpAny_bind (wpAny_pyIter_list (s:={ s with heap:=h1,toks:=tk1 }) hl2 ?_)))
 refine wpAny_pure ⟨plainId_quiet (by symm) _,codeAny_builtin vA ?_⟩
 have it:(h1.push { cls:=.type "list_iterator",data:=.fields #[.ref p,.int 0 0] }).IsListIter h1.objs.size p 0:=⟨_,Heap.get?_push_size _ rfl,rfl,rfl⟩
 have hl3:(h1.push { cls:=.type "list_iterator",data:=.fields #[.ref p,.int 0 0] }).IsList p #[]:=⟨_,Heap.get?_push_of_some _ ho2,rfl,n,rfl⟩
 unfold Builtin.«dict.update.loop»
 refine wpAny_bind (wpAny_pyNext_list_end (i:=0) (l:=p) (items:=#[]) (by first | exact hand | (rw [Around.under_plainId (by symm)];exact hand)) it hl3 (by rfl) fun h2 x2=>?_)
 show wpAny _ _ (Builtin.Dict.addKeywords s.heap.objs.size [] >>= _) _ _ _
 have kk:∀ b o,(s.heap.push { cls:=.type "dict",data:=.dict #[] }).get? b=some o→h2.get? b=some o:=fun b o e=>by
   have e1:=x1.keeps b o e
   exact x2 b o (Nat.ne_of_lt (Heap.lt_size e1)) (Heap.get?_push_of_some _ e1)
 exact wpAny_bind (wpAny_pure (wpAny_pure ⟨rfl,.ref s.heap.objs.size,_,I.laid (a:=s.heap.objs.size) (o:=.dK []) (h':=h2) (t':=tk1) (fun b o e=>kk b o (Heap.get?_push_of_some _ e)) (Nat.le_refl _) ⟨Nat.zero_le _,beq_eq_false_iff_ne.mpr (Ne.symm (Nat.ne_of_lt big)),[],.nil,new.keep kk⟩,rfl,q _ (I.hok.fresh (Nat.le_refl _))⟩))
end L2
namespace L2
open PySem PySem.Spec PySem.Calls PyProof.Rows
def ue (h:Heap) (d:Addr) (es:Array DictEntry) (ep:Nat):Prop:=∃ o,h.get? d=some o∧o.ExactDict∧o.data=.dict es ep
theorem ue.keep {h h':Heap}{d:Addr}{es:Array DictEntry}{ep:Nat} (x:ue h d es ep) (k:∀ o,h.get? d=some o→h'.get? d=some o):ue h' d es ep:=let ⟨o,ho,r⟩:=x; ⟨o,k o ho,r⟩
theorem ue.lt {h:Heap}{d:Addr}{es:Array DictEntry}{ep:Nat} (x:ue h d es ep):d<h.objs.size:=let ⟨_,ho,_⟩:=x;Heap.lt_size ho
section
variable {prog:Program}{w:World}{A:Around}{E:Value→Shared→Prop}{s:Shared}{d it:Addr}{es:Array DictEntry}{ep i:Nat}
theorem ue.ty (x:ue s.heap d es ep):s.TypeIs (.ref d) "dict":=let ⟨o,ho,c,_⟩:=x; ⟨o,ho,c.1⟩
theorem Kl {Q:Value→Shared→Prop} (hd:(d == sysModules)=false) (hm:ue s.heap d es ep)
   (q:Q (.ref s.heap.objs.size) { s with heap:=s.heap.push { cls:=.type "dict_keyiterator",data:=.fields #[.ref d,.int 0 0,.int es.size 0,.int ep 0] } }):wpAny (model prog w) A (pyIter (.ref d)) Q E s:=by
 obtain⟨o,ho,hc,hdat⟩:=id hm
 refine wpAny_pyIter_slot hm.ty F.slot_dict_iter (wpAny_call_entry F.slot_dict_iter hm.ty F.entry_dict_iter ?_ (F.args_dict_iter_1 _))
 unfold Builtin.«dict.__iter__»
 refine wpAny_bind ?_
 unfold Builtin.Dict.dictSlotNone
 refine wpAny_bind (wpAny_notOrdered_dict hm.ty ?_)
 refine wpAny_pure ?_
 show wpAny _ _ (Builtin.Dict.showsAll d >>= _) _ _ s
 unfold Builtin.Dict.showsAll
 rw [if_neg (by rw [hd];exact Bool.false_ne_true)]
 refine wpAny_bind (wpAny_pure (wpAny_bind (wpAny_dictEntries ho hdat (wpAny_bind (wpAny_dictEpoch ho hdat ?_)))))
 refine wpAny_bind (wpAny_newObj_type (wpAny_pure ⟨_,rfl,"dict_keyiterator",_,⟨_,Heap.get?_push_size _ rfl,rfl⟩,F.slot_dict_keyiterator_next.lookup,?_⟩))
 simpa [rawInt] using q
theorem Km {Q:Option Value→Shared→Prop} (hit:s.heap.IsKeyIter it d i es.size ep) (hm:ue s.heap d es ep) (hi:i<es.size)
   (q:∀ h',h'.IsKeyIter it d (i+1) es.size ep→Heap.SameBut it s.heap h'→Q (some es[i].key) { s with heap:=h' }):wpAny (model prog w) A (pyNext (.ref it)) Q E s:=by
 obtain⟨o,ho,hc,hd⟩:=id hit
 obtain⟨od,hod,hcd,hdd⟩:=id hm
 unfold pyNext
 refine wpAny_bind (wpAny_attempt (wpAny_callSpecial?_slot (name:=‹"__next__"›) hit.typeIs F.slot_dict_keyiterator_next
   (wpAny_call_entry F.slot_dict_keyiterator_next hit.typeIs F.entry_dict_keyiterator_next ?_ (F.args_dict_keyiterator_next_1 _))))
 refine wpAny_bind (wpAny_pure (wpAny_bind (wpAny_bind ?_)))
 first | refine wpAny_bind (wpAny_typeNameOfWhole_keyiter hit.typeIs (wpAny_pure ?_)) | refine wpAny_bind (wpAny_typeNameOf_keyiter hit.typeIs (wpAny_pure ?_))
 refine wpAny_bind (wpAny_fieldsOf ho hd ?_)
 simp only [show Builtin.Dict_items.ownsTuple "dict_keyiterator" = false by decide,Bool.false_eq_true,if_false]
 show wpAny _ _ (if (Value.ref d == Value.none)=true then _ else _) _ _ s
 rw [if_neg (show ¬ ((Value.ref d == Value.none)=true) from Bool.false_ne_true)]
 refine wpAny_bind (wpAny_pure (wpAny_bind (wpAny_dictEntries hod hdd ?_)))
 rw [if_neg (by simp)]
 refine wpAny_bind (wpAny_pure (wpAny_bind (wpAny_dictEpoch hod hdd ?_)))
 rw [if_neg (by simp)]
 refine wpAny_pure ?_
 simp only [show ¬ ((i:Int)<0) from by omega,if_false,Int.toNat_natCast,Array.getElem?_eq_getElem hi]
 refine wpAny_bind ?_
 first | refine wpAny_bind (wpAny_typeNameOfWhole_keyiter hit.typeIs (wpAny_pure ?_)) | refine wpAny_bind (wpAny_typeNameOf_keyiter hit.typeIs (wpAny_pure ?_))
 refine wpAny_bind (wpAny_isOneOf_keyiter hit.typeIs ?_)
 show wpAny _ _ (setField (.ref it) 1 (rawInt ((i:Int)+1)) >>= _) _ _ s
 refine wpAny_bind (wpAny_setField ho hd (by simp) ?_)
 have hit':(s.heap.update it (Obj.mapFields (·.setIfInBounds 1 (rawInt ((i:Int)+1))))).IsKeyIter it d (i+1) es.size ep :=
   ⟨_,Heap.get?_update_self _ ho (Obj.isFreed_of_fields (Obj.data_mapFields hd _)),(Obj.cls_mapFields ..).trans hc,by rw [Obj.data_mapFields hd];simp [rawInt]⟩
 refine wpAny_bind (wpAny_holding (wpAny_bind (wpAny_isOneOf_keyiter (s:={ s with heap:=s.heap.update it (Obj.mapFields (·.setIfInBounds 1 (rawInt ((i:Int)+1)))) }) hit'.typeIs ?_)))
 show wpAny _ _ (pure es[i].key) _ _ _
 exact wpAny_pure (wpAny_pure ⟨_,rfl,wpAny_pure (q _ hit' (Heap.SameBut.update ..))⟩)
theorem NP {Q:Option Value→Shared→Prop} (hh:A.handled=none) (hit:s.heap.IsKeyIter it d es.size es.size ep) (hm:ue s.heap d es ep)
   (q:∀ h',Heap.ExtBut it s.heap h'→Q none { s with heap:=h' }):wpAny (model prog w) A (pyNext (.ref it)) Q E s:=by
 obtain⟨o,ho,hc,hd⟩:=id hit
 obtain⟨od,hod,hcd,hdd⟩:=id hm
 unfold pyNext
 refine wpAny_bind (wpAny_attempt (wpAny_callSpecial?_slot (name:=‹"__next__"›) hit.typeIs F.slot_dict_keyiterator_next
   (wpAny_call_entry F.slot_dict_keyiterator_next hit.typeIs F.entry_dict_keyiterator_next ?_ (F.args_dict_keyiterator_next_1 _))))
 refine wpAny_bind (wpAny_pure (wpAny_bind (wpAny_bind ?_)))
 first | refine wpAny_bind (wpAny_typeNameOfWhole_keyiter hit.typeIs (wpAny_pure ?_)) | refine wpAny_bind (wpAny_typeNameOf_keyiter hit.typeIs (wpAny_pure ?_))
 refine wpAny_bind (wpAny_fieldsOf ho hd ?_)
 simp only [show Builtin.Dict_items.ownsTuple "dict_keyiterator" = false by decide,Bool.false_eq_true,if_false]
 show wpAny _ _ (if (Value.ref d == Value.none)=true then _ else _) _ _ s
 rw [if_neg (show ¬ ((Value.ref d == Value.none)=true) from Bool.false_ne_true)]
 refine wpAny_bind (wpAny_pure (wpAny_bind (wpAny_dictEntries hod hdd ?_)))
 rw [if_neg (by simp)]
 refine wpAny_bind (wpAny_pure (wpAny_bind (wpAny_dictEpoch hod hdd ?_)))
 rw [if_neg (by simp)]
 refine wpAny_pure ?_
 simp only [show ¬ ((es.size:Int)<0) from by omega,if_false,Int.toNat_natCast,Array.getElem?_eq_none (Nat.le_refl es.size)]
 refine wpAny_bind ?_
 first | refine wpAny_bind (wpAny_typeNameOfWhole_keyiter hit.typeIs (wpAny_pure ?_)) | refine wpAny_bind (wpAny_typeNameOf_keyiter hit.typeIs (wpAny_pure ?_))
 show wpAny _ _ (setField (.ref it) 0 .none >>= _) _ _ s
 refine wpAny_bind (wpAny_setField ho hd (by simp) ?_)
 show wpAny _ _ (newExc (.type "StopIteration") [] >>= _) _ _ _
 refine wpAny_bind ?_
 simp only [newExc,newTuple]
 refine wpAny_bind (wpAny_newObj_type ?_ (by size_fits))
 refine wpAny_bind (m:=firstArgMember _ _) (wpAny_of_eq (a:=Value.none) (by first | rfl | (simp only [firstArgMember];rfl)) ?_)
 refine wpAny_newObj_type ?_ (by size_fits)
 simp only [raiseNew]
 refine wpAny_bind (wpAny_handled ?_)
 rw [show A.in1.handled=none from hh]
 refine wpAny_bind (wpAny_pure (wpAny_throw ?_))
 refine wpAny_bind (wpAny_isInstance (T:="StopIteration") (b:=true) ⟨_,Heap.get?_push_size _ rfl,rfl⟩ isSubtype_stop ?_)
 exact wpAny_pure (q _ (((Heap.SameBut.update ..).extBut.push _).push _))
end
section
variable {X:Cx}{pos:Pos}
end
end L2
namespace L2
open PySem PySem.Spec PySem.Calls PySem.W PyProof.Rows
inductive Eb (n:Nat) {α:Type} (R:α→Prop):KasT α→Prop
 | ret {a:α}:R a→Eb n R (.ret a)
 | ask {i j:Nat}{k:Bool→KasT α}:i<n→j<n→(∀ b,Eb n R (k b))→Eb n R (.ask i j k)
theorem Eb.bind {n:Nat}{α β:Type}{R:α→Prop}{S:β→Prop}{f:α→KasT β}{t:KasT α} (h:Eb n R t) (k:∀ a,R a→Eb n S (f a)):Eb n S (t.bind f):=by
 induction h with
 | ret r=>exact k _ r
 | ask hi hj _ ih=>exact .ask hi hj ih
def PlG (n:Nat) (p:Array Nat):Prop:=p.size=n∧∀ x∈p,x<n
theorem PlG.at {n:Nat}{p:Array Nat} (h:PlG n p) (hn:0<n) (k:Nat):p.getD k 0<n:=by
 rw [Array.getD_eq_getD_getElem?]
 by_cases hk:k<p.size
 · rw [Array.getElem?_eq_getElem hk];exact h.2 _ (Array.getElem_mem hk)
 · rw [Array.getElem?_eq_none (by omega)];exact hn
end L2
namespace L2
open PySem PySem.Spec PySem.Calls PySem.W PyProof.Rows
section
variable {prog:Program}{w:World}{A:Around}{E:Value→Shared→Prop}{s:Shared}
def Rr (h:Heap) (v:Value):Prop:=∃ x o q t tq tt m,v=.ref x∧h.get? x=some o∧o.cls=.type "tuple"∧o.data=.seq #[.str q tq,.str t tt] m
theorem Rr.keep {h h':Heap}{v:Value} (x:Rr h v) (k:∀ b o,h.get? b=some o→o.cls=.type "tuple"→h'.get? b=some o):Rr h' v:=let ⟨a,o,q,t,tq,tt,m,e,ho,hc,r⟩:=x; ⟨a,o,q,t,tq,tt,m,e,k _ _ ho hc,hc,r⟩
end
end L2
namespace L2
open PySem PySem.Spec PyProof.Rows PySem.Calls
section
variable {X:Cx}{scope:Scope}{x y z:Str}{M:List Str}{elt iter:Expr}{ifs:List Expr}{pos p1 p2 p3 p4:Pos}{kk:Nat}{te:TE}{wi:TI}{tc:TT}
structure ab3 (K:PySem.W.Frag) (J:It) (tc:TT) (te:TE) (σ:St) (H1:Hp) (Q:VK):Prop where
 ex:∃ (n:Nat) (W:Nat→List V→Hp→Prop),n≤sizeLine∧W 0 [] H1∧∀ i ys H,i≤n→ys.length≤i→W i ys H →
   (J.stop i H∧∀ p,H p=none→Q (.ref p) (upd H p (.lst ys)))∨(J.go i H∧i<n∧∀ z H',J.Be i H z H'→∃ (p:Addr) (a b d:V),z=.ref p∧gf K H' p [a,b,d]∧tc (some a::some b::σ) H' fun c H3=>if c=true then te (some a::some b::σ) H3 fun z H4=>W (i+1) (ys++[z]) H4 else W (i+1) ys H3)
end
end L2
namespace L2
open PySem PySem.Spec PyProof.Rows PySem.Calls PySem.W PySem.Builtin PySem.Builtin.ObjectAttr PySem.Builtin.Getset_descriptor
structure ae1 (K:PySem.W.Frag) (D:Addr) (f:Str):Prop where
 ga:findIn K (.ref D) "__getattribute__" = some (some (.builtin "BaseException.__getattribute__"))
 gk:findIn K (.ref D) "__getattr__" = some none
 hd:hasDictIn K D=true
 at_:findIn K (.ref D) f=some none
 mb:mroIn K D (.type "BaseException")=some true
section
variable {prog:Program}{w:World}{A:Around}{E:Value→Shared→Prop}{s:Shared}{K:PySem.W.Frag}{x D:Addr}{ox:Obj}{od:Obj}{name:Str}{v:Value}
def Ko:List Value→Bool
 | .ref _::r=>Ko r
 | l=>l == PQ
structure ae2 (K:PySem.W.Frag) (D:Addr) (f:Str):Prop where
 sa:findIn K (.ref D) "__setattr__" = some (some (.builtin "object.__setattr__"))
 hd:hasDictIn K D=true
 at_:findIn K (.ref D) f=some none
 mr:(clsIn K D).any (fun cd=>Ko cd.mro)=true
 mo:mroIn K D (.type "object")=some true
end
end L2
namespace L2
open PySem PySem.Spec PyProof.Rows PySem.Calls PySem.W PySem.Builtin PySem.Builtin.ObjectAttr PySem.Builtin.Getset_descriptor
def Rt (K:PySem.W.Frag) (C:Addr):Bool:=match K.lookup C with
 | some ⟨.type "type",_,.cls cd,sl⟩=>(match cd.mro,sl.toList with
   | .ref C'::bm,[_,_,_,_,some (.builtin n),_]=>C' == C && n == "ValueError.__new__" && !cd.hasDel && tailIn K PQ bm
   | _,_=>false)
 | _=>false
section
variable {prog:Program}{w:World}{A:Around}{E:Value→Shared→Prop}{s:Shared}{K:PySem.W.Frag}{C fI:Addr}
end
end L2
namespace L2
open PySem PySem.Spec PyProof.Rows PySem.Calls PySem.W PySem.Builtin PySem.Builtin.ObjectAttr PySem.Builtin.Getset_descriptor
theorem Kp {H:Hp}{a:Addr}{o:HO} (h:H a=some o):upd H a o=H:=by
 funext b;unfold upd;split
 · rename_i e;rw [e,h]
 · rfl
structure ak7 (K:PySem.W.Frag) (C:Addr):Prop where
 rd:PySem.W.readsIn K C (.type "type")=true
 at_:PySem.W.findCls K (.ref C) (.type "type") "__init__" = some (.val (.builtin "ValueError.__init__"))
 sp:PySem.W.specialIn K (.ref C) "__getattribute__" = some (some (.builtin "type.__getattribute__"))
section
variable {X:Cx}{pos apos np:Pos}{e:Expr}{es:List Expr}{t:TA}{x:Str}{C0:Addr}
end
end L2
namespace L2
open PySem PySem.Spec PyProof.Rows PySem.Calls PySem.W PySem.Builtin
section
variable {X:Cx}{pins:List (Addr × Obj)}{σ:St}{H:Hp}{s:Shared}{o value:Expr}{f:Str}{pos pos':Pos}{ta tv:TE}
end
section
variable {P:Program}{w:World}{K:PySem.W.Frag}{mg:Str→Option Value}{base:Heap}{N:List Str}{qual:Str}{scope:Scope}{f:Addr}{cdv:Value}{A:Around}{outer:List Env}{s:Shared}{H:Hp}{E:XK}
end
end L2
namespace L2
open PySem PySem.Spec PyProof.Rows PySem.Calls PySem.W PySem.Builtin
section
variable {P:Program}{w:World}{K:PySem.W.Frag}{mg:Str→Option Value}{base:Heap}{N:List Str}{qual:Str}{scope:Scope}{f:Addr}{cdv:Value}{A:Around}{outer:List Env}{s:Shared}{H:Hp}{E:XK}
structure MkX (K:PySem.W.Frag) (C f:Addr):Prop where
 ex:Rt K C=true
 init:PySem.W.findIn K (.ref C) "__init__" = some (some (.ref f))
 fn:PySem.W.isFn K (.ref f)=true
 kp:PySem.W.keepIn K (.ref C)=true
end
end L2
namespace L2
open PySem PySem.Spec PyProof.Rows PySem.Calls
section
variable {X:Cx}
def Itd (a:Addr) (o:Obj):It :=
 ⟨fun i H=>∃ kvs,H a=some (.ji o (.dK kvs))∧i<kvs.length,
  fun i H z H'=>H'=H∧∀ kvs,H a=some (.ji o (.dK kvs))→(kvs.map fun p=>kV p.1)[i]? = some z,
  fun i H=>∃ kvs,H a=some (.ji o (.dK kvs))∧kvs.length≤i⟩
theorem BZ {P:Program}{w:World}:∀ {es:List DictEntry}{vs:List (Key × Value)}{kvs:List (Key × V)},Pairs (aO P w) es vs→KV kvs vs→Vals (kvs.map fun p=>kV p.1) (es.map (·.key))
 | _,_,_,.nil,.nil=>.nil
 | _,_,_,.cons hk _ t,.cons r t'=>by
   refine .cons ?_ (BZ t t')
   rw [Dr] at hk
   dsimp only
   rw [r.1]
   rcases yB hk with ⟨i,u,e,z⟩ | ⟨x,u,e,z⟩
   · rw [e,z];exact⟨u,rfl⟩
   · rw [e,z];exact⟨u,rfl⟩
theorem GF {P:Program}{w:World}{H:Hp}{h:Heap}{a:Addr}{o:Obj}{kvs:List (Key × V)}{es:Array DictEntry}{ep:Nat} (hd:o.data=.dict es ep) (ok:bC P w H h a (.ji o (.dK kvs))) :
   ue h a es ep∧Vals (kvs.map fun p=>kV p.1) (es.toList.map (·.key))∧es.size=kvs.length:=by
 obtain⟨e,_,_,vs,rv,o',es',ep',e',x,d',_,pr,_⟩:=ok
 rw [e] at e'
 cases e'
 rw [hd] at d'
 cases d'
 exact⟨⟨o,e,x,hd⟩,BZ pr rv,by rw [← Array.length_toList,pr.length,← rv.length]⟩
theorem HQ {P:Program}{w:World}{K:PySem.W.Frag}{tg:Expr}{a it:Addr}{o:Obj}{es:Array DictEntry}{ep:Nat} (hd:o.data=.dict es ep):Turn P w K tg (Itd a o) [it] it (fun i h=>h.IsKeyIter it a i es.size ep∧i≤es.size) where
 mem:=by simp
 obj:=fun i h st b hb=>by
   have e:b=it:=by simpa using hb
   subst e
   obtain⟨⟨ob,q,c,d⟩,_⟩:=st
   exact⟨ob,q,fun v z=>by rw [d] at z;cases z⟩
 keep:=fun i h h' st k=>⟨st.1.at fun ob q=>k it (by simp) ob q,st.2⟩
 item:=by
   intro X hP hw hK hc i pins s σ H E I hf st hg
   subst hP hw hK
   obtain⟨kvs,hq,hi⟩:=hg
   obtain⟨raw,rk,sz⟩:=GF hd (I.hok a _ hq)
   obtain⟨f0,f1,f2,f3,f4,f5⟩:=hf it (by simp)
   have hi':i<es.size:=by omega
   refine Km st.1 raw hi' fun h' st' sb=>?_
   have I1:Inv X pins σ H { s with heap:=h' }:=I.turned (t':=s.toks) (fun b o hb e=>(sb.2 b hb).trans e) f0 f1 f3 f4 f5
   obtain⟨ob,e,c,d⟩:=id st'
   have hk:(kvs.map fun p=>kV p.1)[i]? = some ((kvs.map fun p=>kV p.1)[i]'(by rw [List.length_map];exact hi)):=List.getElem?_eq_getElem _
   obtain⟨u,hu,ru⟩:=rk.get hk
   have eu:u=es[i].key:=by
     rw [List.getElem?_map,Array.getElem?_toList,Array.getElem?_eq_getElem hi'] at hu
     exact (Option.some.inj hu).symm
   subst eu
   exact⟨_,rfl,Ge (s:={ s with heap:=h' }) e c d (by decide) ⟨_,H,I1,ru,⟨rfl,fun kvs' hy=>by rw [hq] at hy;cases hy;exact hk⟩,⟨st',hi'⟩,fun b hb=>(hf b hb).1⟩⟩
 done:=by
   intro X hP hw hK hc i pins s σ H E I hf st hg
   subst hP hw hK
   obtain⟨kvs,hq,hi⟩:=hg
   obtain⟨raw,rk,sz⟩:=GF hd (I.hok a _ hq)
   obtain⟨f0,f1,f2,f3,f4,f5⟩:=hf it (by simp)
   obtain⟨st,hle⟩:=st
   have:i=es.size:=by omega
   subst this
   exact NP (I.ok.hd hc) st raw fun h' eb=>⟨rfl,I.turned (t':=s.toks) (fun b o hb e=>eb b o hb e) f0 f1 f3 f4 f5⟩
 self:=fun _ _ _ _ _ st h=>wpAny_pyIter_keyiter st.1 h
variable {tg:Expr}
def Wh (tl:TE):TI:=fun σ H R=>tl σ H fun x H1=>∃ a kvs,x=.ref a∧Rd H1 a (.dK kvs)∧∀ o,R (Itd a o) (upd H1 a (.ji o (.dK kvs)))
theorem NQ {l:Expr}{tl:TE} (hl:PE X l tl):PI X tg l (Wh tl):=by
 intro pins s σ H R I h
 refine dh (hl pins s σ H _ I h) fun v s1 zq=>?_
 obtain⟨x,H1,I1,r1,q1⟩:=zq
 obtain⟨a,kvs,e,hq,q⟩:=q1
 subst e
 cases r1
 obtain⟨hz,hS,vs,rv,o,es,ep,ho,hx,hdat,hk,hp,hn⟩:=pH I1.hok hq
 have hm:ue s1.heap a es ep:=⟨o,ho,hx,hdat⟩
 have I2:Inv X pins σ (upd H1 a (.ji o (.dK kvs))) s1:=by
   have ok:bC X.prog X.w (upd H1 a (.ji o (.dK kvs))) s1.heap a (.ji o (.dK kvs)):=⟨ho,hz,hS,vs,rv,o,es,ep,ho,hx,hdat,hk,hp,hn⟩
   rcases hq with hq | ⟨o',hq⟩
   · exact I1.write (x:=a) (e:=a) (t':=s1.toks) (h':=s1.heap) (by rw [hq];exact True.intro) (.inl rfl) (fun b u _ z=>z) ⟨_,ho⟩ ok
   · obtain⟨e',_⟩:=(show bC X.prog X.w H1 s1.heap a (.ji o' (.dK kvs)) from I1.hok a _ hq)
     rw [ho] at e';cases e'
     rw [Kp hq];exact I1
 refine Kl hS hm ?_
 refine⟨s1.heap.objs.size,[s1.heap.objs.size],_,_,_,rfl,I2.kept (t':=s1.toks) fun b o e=>Heap.get?_push_of_some _ e,HQ hdat,⟨⟨_,Heap.get?_push_size _ rfl,rfl,rfl⟩,Nat.zero_le _⟩,fun b hb=>?_,q o⟩
 have e:b=s1.heap.objs.size:=by simpa using hb
 subst e
 exact I2.yj (Nat.le_refl _) (I2.hok.fresh (Nat.le_refl _))
end
end L2
namespace L2
open PySem PySem.Spec PyProof.Rows PySem.Calls PySem.W
section
variable {K:PySem.W.Frag}{C A0 fI:Addr}{xo:Value}{xd:Option Addr}{cd cdA:ClassData}{sl:Array (Option Value)}
end
section
variable {X:Cx}{scope:Scope}{x:Str}{M:List Str}{pins:List (Addr × Obj)}{σ:St}{H₂:Hp}{s₂:Shared}{elt iter tg:Expr}{ifs:List Expr}{pos px:Pos}{te:TE}{wi:TI}{g:TG}{tc:TT}
end
end L2
namespace L2
open PySem PySem.Spec PyProof.Rows PySem.Calls
section
variable {X:Cx}{o:Expr}{to:TE}{apos cpos tp:Pos}{elts:List Expr}{x1:Nat}
end
end L2
namespace L2
open PySem PySem.Spec PyProof.Rows PySem.Calls
theorem HR {prog:Program}{w:World}{A:Around}{E:Value→Shared→Prop}{s:Shared}{Q:Int→Shared→Prop} (h:Q 4238894112 { s with toks:=s.toks+1 }):wpAny (model prog w) A (pyHash .none) Q E s:=by
 unfold pyHash
 have ty:s.TypeIs .none "NoneType":=rfl
 have hv:[Value.none].any Value.onHeap=false:=rfl
 show wpAny _ _ (pyHashByItsType .none) _ _ _
 unfold pyHashByItsType
 refine wpAny_bind ?_
 rw [cRoomFor,if_neg (by rw [hv];exact Bool.false_ne_true)]
 refine wpAny_pure ?_
 refine wpAny_bind (wpAny_specialOf ty PySem.F.slot_NoneType_hash.lookup ?_)
 show wpAny _ _ (if (some (Value.builtin "NoneType.__hash__") == some Value.none)=true then _ else _) Q E s
 rw [if_neg (by rw [beq_builtin_none];exact Bool.false_ne_true)]
 refine wpAny_bind (wpAny_specialOf ty PySem.F.slot_NoneType_hash.lookup ?_)
 show wpAny _ _ (callSpecialIfBoundUnlessNone? .none "__hash__" _ >>= _) Q E s
 refine wpAny_bind (wpAny_callSpecialIfBoundUnlessNone?_slot ty PySem.F.slot_NoneType_hash (wpAny_call_entry PySem.F.slot_NoneType_hash ty PySem.F.entry_NoneType_hash ?_ (PySem.F.args_NoneType_hash_1 _)))
 unfold Builtin.«NoneType.__hash__»
 refine wpAny_bind (wpAny_pure ?_)
 show wpAny _ _ (do ret (← mkInt 4238894112)) _ _ s
 refine wpAny_ret_mkInt ?_
 show wpAny _ _ (if (decide (-(2:Int) ^ 63≤4238894112) && decide ((4238894112:Int)<2 ^ 63))=true then _ else _) Q E _
 rw [if_pos (by decide)]
 exact wpAny_pure h
def Ks:Option Key→Value→Bool
 | none,.none=>true
 | some k,v=>qt k v
 | _,_=>false
theorem yT:∀ {k:Option Key}{v:Value},Ks k v=true→(k=none∧v=Value.none)∨∃ q,k=some q∧qt q v=true
 | none,v,h=>by
   cases v <;> first | exact .inl ⟨rfl,rfl⟩ | exact nomatch h
 | some q,v,h=>.inr ⟨q,rfl,by simpa [Ks] using h⟩
theorem Kv (a b:Key):decide ((some a:Option Key)=some b)=decide (a=b):=by
 by_cases e:a=b
 · subst e;simp
 · rw [decide_eq_false e,decide_eq_false (fun q=>e (Option.some.inj q))]
theorem Ru (b:Key):decide ((none:Option Key)=some b)=false:=decide_eq_false (fun q=>nomatch q)
theorem Kw (b:Key):decide ((some b:Option Key)=none)=false:=decide_eq_false (fun q=>nomatch q)
def optKind (prog:Program) (w:World):PySem.KeyKind prog w (Option Key) where
 is:=Ks
 hash:=fun | none=>4238894112 | some k=>Vj w k
 inj:=fun v a b ha hb=>by
   rcases yT ha with ⟨rfl,rfl⟩ | ⟨p,rfl,hp⟩
   · rcases yT hb with ⟨rfl,_⟩ | ⟨q,rfl,hq⟩
     · rfl
     · rcases yB hq with ⟨_,_,_,e⟩ | ⟨_,_,_,e⟩ <;> exact nomatch e
   · rcases yT hb with ⟨rfl,rfl⟩ | ⟨q,rfl,hq⟩
     · rcases yB hp with ⟨_,_,_,e⟩ | ⟨_,_,_,e⟩ <;> exact nomatch e
     · rw [(aO prog w).inj v p q hp hq]
 byValue:=fun k v h=>by
   rcases yT h with ⟨rfl,rfl⟩ | ⟨p,rfl,hp⟩
   · rfl
   · exact (aO prog w).byValue p v hp
 pyHash:=fun hv h=>by
   rcases yT hv with ⟨rfl,rfl⟩ | ⟨p,rfl,hp⟩
   · exact HR h
   · exact (aO prog w).pyHash hp h
 eqBool:=fun hu hv h=>by
   rcases yT hu with ⟨rfl,rfl⟩ | ⟨p,rfl,hp⟩
   · rcases yT hv with ⟨rfl,rfl⟩ | ⟨q,rfl,hq⟩
     · exact (SeqAt.EqAt.same _) _ _ _ _ h
     · rw [Ru] at h
       rcases yB hq with ⟨j,u,rfl,rfl⟩ | ⟨y,u,rfl,rfl⟩
       · exact SeqAt.EqAt.none_int j u _ _ _ _ h
       · exact SeqAt.EqAt.none_str y u _ _ _ _ h
   · rcases yT hv with ⟨rfl,rfl⟩ | ⟨q,rfl,hq⟩
     · rw [Kw] at h
       rcases yB hp with ⟨j,u,rfl,rfl⟩ | ⟨y,u,rfl,rfl⟩
       · exact SeqAt.EqAt.int_none j u _ _ _ _ h
       · exact SeqAt.EqAt.str_none y u _ _ _ _ h
     · rw [Kv] at h;exact (aO prog w).eqBool hp hq h
 «strs»:=fun k x t v h=>by
   rcases yT h with ⟨rfl,e⟩ | ⟨p,rfl,hp⟩
   · exact nomatch e
   · exact (aO prog w).strs p x t v hp
theorem yd {prog:Program}{w:World}:∀ {es:List DictEntry}{vs:List (Key × Value)},Pairs (aO prog w) es vs→Pairs (optKind prog w) es (vs.map fun p=>(some p.1,p.2))
 | _,_,.nil=>.nil
 | _,_,.cons hk hh t=>.cons hk hh (yd t)
theorem Ec {prog:Program}{w:World}{h:Heap}{d:Addr}{vs:List (Key × Value)} (x:h.DictOf (aO prog w) d vs):h.DictOf (optKind prog w) d (vs.map fun p=>(some p.1,p.2)):=by
 obtain⟨o,es,ep,ho,hc,hd,hk,hp,hn⟩:=x
 refine⟨o,es,ep,ho,hc,hd,fun e he=>?_,yd hp,?_⟩
 · obtain⟨k,h1,h2⟩:=hk e he
   exact⟨some k,h1,h2⟩
 · rw [List.map_map]
   have:((fun x:Option Key × Value=>x.1) ∘ fun p:Key × Value=>(some p.1,p.2))=(fun k=>some k) ∘ fun p:Key × Value=>p.1:=rfl
   rw [this,← List.map_map]
   exact List.Pairwise.map _ (fun a b ne e=>ne (Option.some.inj e)) hn
theorem Ky (vs:List (Key × Value)):valueAt (vs.map fun p=>((some p.1:Option Key),p.2)) none=none:=by
 induction vs with
 | nil=>rfl
 | cons a r ih =>
   unfold valueAt at ih ⊢
   rw [List.map_cons,List.find?_cons,Kw]
   exact ih
section
variable {X:Cx}
theorem NT:iB X (compareOp .In) (fun x y H Q=>∃ a kvs,x=.non∧y=.ref a∧Rd H a (.dK kvs)∧Q (.bl false) H):=by
 intro pins s σ H x y v u Q I rx ry h
 obtain⟨a,kvs,rfl,rfl,g,q⟩:=h
 cases rx
 cases ry
 obtain⟨z,hd,vs,rel,dd⟩:=pH I.hok g
 refine wpAny_in_of (knd:=optKind X.prog X.w) (k:=none) rfl hd (Ec dd).mapOf ?_
 rw [Ky]
 exact⟨.bl false,H,I.tok _,rfl,q⟩
theorem Rv {op:Value→Value→Sem Value}{r r':V→V→Hp→VK→Prop} (h:iB X op r) (h':iB X op r'):iB X op (fun x y H Q=>r x y H Q∨r' x y H Q):=by
 intro pins s σ H x y v u Q I rx ry q
 rcases q with q | q
 · exact h pins s σ H x y v u Q I rx ry q
 · exact h' pins s σ H x y v u Q I rx ry q
theorem Rx (hu:X.A.units+1<cLine):iB X (compareOp .In) (fun x y H Q=>(∃ a o,y=.ref a∧fX H a x o∧Q (.bl o.isSome) H)∨∃ a kvs,x=.non∧y=.ref a∧Rd H a (.dK kvs)∧Q (.bl false) H)
:=Rv (NB hu) NT
end
theorem PS.uT {X:Cx}{st:Stmt}{t:TS} (h:PS X.uT st t):PS X st t:=fun pins s σ H D I hw =>
 wpAny_mono (h pins s σ H D (I.wish _) hw) (fun _ _ q=>q.iy) fun _ _ z=>False.elim z
end L2
namespace L2
open PySem PySem.Spec PyProof.Rows PySem.Calls
section
variable {M:Model}{A:Around}{E:Value→Shared→Prop}{s:Shared}
end
section
variable {P:Program}{w:World}{K:PySem.W.Frag}{mg:Str→Option Value}{base:Heap}{N:List Str}{qual:Str}{scope:Scope}{f:Addr}{cdv:Value}{A:Around}{outer:List Env}{s:Shared}{H:Hp}{E:XK}
end
section
variable {P:Program}{w:World}{K:PySem.W.Frag}{mg:Str→Option Value}{base:Heap}
end
end L2
namespace L2
open PySem PySem.Spec PyProof.Rows PySem.Calls
end L2
namespace L2
open PySem PySem.Spec PyProof.Rows PySem.Calls
theorem Ed {a:Addr}{o:Obj}{kvs:List (Key × V)}{tc:TT}{te:TE}{σ:St}{H:Hp}{Q:VK} (hz:kvs.length≤sizeLine) (W:Nat→List V→Hp→Prop) (h0:W 0 [] H) (hq:∀ i ys H,W i ys H→H a=some (.ji o (.dK kvs)))
   (hs:∀ i x ys H,kvs[i]? = some x→ys.length≤i→W i ys H→tc (some (kV x.1)::σ) H fun c H3=>if c=true then te (some (kV x.1)::σ) H3 fun z H4=>W (i+1) (ys++[z]) H4 else W (i+1) ys H3)
   (hd:∀ ys H,W kvs.length ys H→∀ p,H p=none→Q (.ref p) (upd H p (.lst ys))):Kg (Itd a o) tc te σ H Q:=by
 refine⟨kvs.length,W,hz,h0,fun i ys H hi hl hw=>?_⟩
 have q:=hq i ys H hw
 by_cases hlt:i<kvs.length
 · refine .inr ⟨⟨kvs,q,hlt⟩,hlt,fun v H' y=>?_⟩
   obtain⟨rfl,e1⟩:=y
   have hx:kvs[i]? = some kvs[i]:=List.getElem?_eq_getElem hlt
   have e2:=e1 kvs q
   rw [List.getElem?_map,hx] at e2
   cases e2
   exact hs i _ ys _ hx hl hw
 · have e:i=kvs.length:=by omega
   subst e
   exact .inl ⟨⟨kvs,q,Nat.le_refl _⟩,hd ys H hw⟩
end L2
namespace L2
open PySem PySem.Spec PyProof.Rows PySem.Calls
section
variable {P:Program}{w:World}{H:Hp}{h:Heap}{a:Addr}{kvs:List (Option Key × V)}
end
def Wi:Value→V
 | .none=>.non
 | .bool b=>.bl b
 | .int i _=>.int i
 | .str x _=>.str x
 | .bytes b _=>.Gb b
 | .float b _=>.flt b
 | .ref a=>.ref a
 | .type n=>.ty n
 | _=>.non
theorem RelV.back {x:V}{v:Value} (r:RelV x v):x=Wi v:=by
 cases x with
 | non=>cases (show v=Value.none from r);rfl
 | bl b=>cases (show v=Value.bool b from r);rfl
 | int i=>obtain⟨t,rfl⟩:=r;rfl
 | str i=>obtain⟨t,rfl⟩:=r;rfl
 | Gb i=>obtain⟨t,rfl⟩:=r;rfl
 | flt i=>obtain⟨t,rfl⟩:=r;rfl
 | ref i=>cases (show v=Value.ref i from r);rfl
 | ty i=>cases (show v=Value.type i from r);rfl
section
variable {X:Cx}{pos:Pos}
end
section
variable {X:Cx}{o:Expr}{to:TE}{apos cpos tp:Pos}{elts:List Expr}{x1:Nat}
end
section
variable {P:Program}{w:World}{a:Addr}{o:Obj}{kvs:List (Option Key × V)}{σ:St}{H:Hp}
end
section
variable {X:Cx}{tg:Expr}
end
end L2
namespace L2
open PySem PySem.Spec PySem.Calls PySem.W PyProof.Rows
section
variable {X:Cx}{pos:Pos}{P:Program}{w:World}
end
section
variable {X:Cx}{CX:wC}{k:Nat}{E:XK}{m:Str}{pos apos:Pos}{o:Expr}{ta:TE}{P:Program}{w:World}{K:PySem.W.Frag}{mg:Str→Option Value}{base:Heap}
end
end L2
namespace L2
open PySem PySem.Spec PyProof.Rows PySem.Calls
section
variable {X:Cx}{ea tg:Expr}{t:TA}{p pos:Pos}
end
section
variable {X:Cx}
end
end L2
namespace L2
open PySem PySem.Spec PyProof.Rows PySem.Calls
theorem oW {prog:Program}{w:World}{h h':Heap}{ks:List Key}{a:Addr} (x:(tupleKind (aO prog w)).is h ks a) (k:∀ o,h.get? a=some o→h'.get? a=some o):(tupleKind (aO prog w)).is h' ks a:=by
 obtain⟨o,vs,n,h1,r⟩:=x
 exact⟨o,vs,n,k o h1,r⟩
theorem pU {prog:Program}{w:World}{h h':Heap}{d:Addr}{xs:List (List Key × Addr × Value)} (x:h.DictOfH (tupleKind (aO prog w)) d xs) (k:∀ o,h.get? d=some o→h'.get? d=some o)
   (ka:∀ x∈xs,∀ o,h.get? x.2.1=some o→h'.get? x.2.1=some o):h'.DictOfH (tupleKind (aO prog w)) d xs:=by
 obtain⟨o,es,ep,ho,r1,r2,r3,r4,r5⟩:=x
 exact⟨o,es,ep,k o ho,r1,r2,r3,fun x hx=>oW (r4 x hx) (ka x hx),r5⟩
def fK (rows:List (List Key × Addr × Value)):List (List Key × Addr × Value):=rows.foldl (fun acc r=>storedH acc r.1 r.2.1 r.2.2) []
theorem Ca (xs:List (List Key × Addr × Value)) (k:List Key) (a:Addr) (v:Value):(storedH xs k a v).length≤xs.length+1:=by
 unfold storedH
 split
 · rw [List.length_map];omega
 · rw [List.length_append];exact Nat.le_refl _
theorem Cd (rows:List (List Key × Addr × Value)):(fK rows).length≤rows.length:=by
 have aux:∀ (rows acc:List (List Key × Addr × Value)),(rows.foldl (fun acc r=>storedH acc r.1 r.2.1 r.2.2) acc).length≤acc.length+rows.length:=by
   intro rows
   induction rows with
   | nil=>intro acc;exact Nat.le_refl _
   | cons r rs ih =>
     intro acc
     have:=ih (storedH acc r.1 r.2.1 r.2.2)
     have:=Ca acc r.1 r.2.1 r.2.2
     rw [List.foldl_cons,List.length_cons]
     omega
 have:=aux rows []
 rw [List.length_nil,Nat.zero_add] at this
 exact this
theorem zj {xs:List (List Key × Addr × Value)}{k:List Key}{a:Addr}{v:Value}{x:List Key × Addr × Value} (h:x∈storedH xs k a v):x.2.1=a∨∃ y∈xs,x.2.1=y.2.1:=by
 unfold storedH at h
 split at h
 · obtain⟨y,hy,rfl⟩:=List.mem_map.mp h
   refine .inr ⟨y,hy,?_⟩
   unfold putAt
   split <;> rfl
 · rcases List.mem_append.mp h with h | h
   · exact .inr ⟨x,h,rfl⟩
   · rw [List.mem_singleton.mp h];exact .inl rfl
theorem Ef {prog:Program}{w:World}{A:Around}{R:Result→Shared→Prop}{d it l:Addr}{items:Array Value}{rows:List (List Key × Addr × Value)}{res:Value}
   (hdi:d≠it) (hdl:d≠l) (hil:it≠l) (hand:A.handled=none) (hlen:items.size=rows.length) (hz:rows.length≤sizeLine) (hroom:A.units+1<cLine) :
   ∀ (k i:Nat) (s:Shared),items.size - i=k→i≤items.size→s.heap.IsListIter it l i→s.heap.IsList l items →
     (∀ (j:Nat) (x:Value) (kv:List Key × Addr × Value),items[j]? = some x→rows[j]? = some kv→∃ t,x=.ref t∧IsTup s.heap t #[.ref kv.2.1,kv.2.2]∧(tupleKind (aO prog w)).is s.heap kv.1 kv.2.1∧t≠d∧t≠it∧kv.2.1≠d∧kv.2.1≠it) →
     s.heap.DictOfH (tupleKind (aO prog w)) d (fK (rows.take i))→(∀ x∈fK (rows.take i),x.2.1≠it) →
     (∀ h' tk,(∀ b o,b≠d→b≠it→s.heap.get? b=some o→h'.get? b=some o)→h'.DictOfH (tupleKind (aO prog w)) d (fK rows)→R (.ok (.ret res)) { s with heap:=h',toks:=tk }) →
     codeAny (model prog w) A (.builtin "dict.update.loop" ⟨[.ref d,.ref it,rawInt (i:Nat),res],[]⟩) R s:=by
 intro k
 induction k with
 | zero =>
   intro i s hk hi hit hl hrow hd hna hR
   refine codeAny_builtin vA ?_
   rw [Around.under_plainId (by symm)]
   unfold Builtin.«dict.update.loop»
   refine wpAny_bind (wpAny_pyNext_list_end hand hit hl (by rw [Array.getElem?_eq_none];omega) fun h2 x2=>?_)
   show wpAny _ _ (Builtin.Dict.addKeywords d [] >>= _) _ _ _
   refine wpAny_bind (wpAny_pure (wpAny_pure (hR h2 s.toks (fun b o _ hb e=>x2 b o hb e) ?_)))
   have e1:rows.take i=rows:=List.take_of_length_le (by omega)
   rw [e1] at hd hna
   exact pU hd (fun o e=>x2 d o hdi e) fun x hx o e=>x2 _ o (hna x hx) e
 | succ k ih =>
   intro i s hk hi hit hl hrow hd hna hR
   have hlt:i<items.size:=by omega
   obtain⟨x,hx⟩:∃ x,items[i]? = some x:=⟨_,Array.getElem?_eq_getElem hlt⟩
   obtain⟨kv,hkv⟩:∃ kv,rows[i]? = some kv:=⟨_,List.getElem?_eq_getElem (by omega)⟩
   obtain⟨t,rfl,ht,hu,htd,hti,hkd,hki⟩:=hrow i x kv hx hkv
   refine codeAny_builtin vA ?_
   rw [Around.under_plainId (by symm)]
   unfold Builtin.«dict.update.loop»
   refine wpAny_bind (wpAny_pyNext_list_item hit hl hx fun h1 it1 Rp=>?_)
   obtain⟨ot,hot,hct,nt,hdt⟩:=id ht
   have Wj:h1.get? t=some ot:=(Rp.2 t hti).trans hot
   show wpAny _ _ (holding [Value.ref t] _ >>= _) _ _ _
   refine wpAny_bind (wpAny_holding ?_)
   refine wpAny_bind (wpAny_tryCatch ?_)
   unfold Builtin.Dict.pairItems
   refine wpAny_bind (wpAny_typeOf (T:="tuple") ⟨_,Wj,hct⟩ ?_)
   rw [if_pos (by decide)]
   refine wpAny_bind (wpAny_seqItems Wj hdt ?_)
   refine wpAny_pure ?_
   show wpAny _ _ (holding [.ref kv.2.1,kv.2.2] (dictSet d (.ref kv.2.1) kv.2.2)) _ _ _
   have hle:(fK (rows.take i)).length≤sizeLine:=by
     have e1:=Cd (rows.take i)
     have e4:(rows.take i).length≤rows.length:=List.length_take_le' i rows
     omega
   refine wpAny_holding (wpAny_dictSet_heap (s:={ s with heap:=h1 }) (xs:=fK (rows.take i)) (tupleKind_room_in1 hroom) (oW hu fun o e=>(Rp.2 _ hki).trans e) (pU hd (fun o e=>(Rp.2 d hdi).trans e) fun x hx o e=>(Rp.2 _ (hna x hx)).trans e) (fun h2 d2 sb2=>?_) hle)
   refine wpAny_pure ⟨plainId_quiet (by symm) _,?_⟩
   have hk2:∀ b o,b≠d→b≠it→s.heap.get? b=some o→h2.get? b=some o:=fun b o n1 n2 e=>(sb2.2 b n1).trans ((Rp.2 b n2).trans e)
   have hsn:fK (rows.take (i+1))=storedH (fK (rows.take i)) kv.1 kv.2.1 kv.2.2:=by
     rw [List.take_succ,hkv];show fK (rows.take i++[kv])=_;unfold fK;rw [List.foldl_append];rfl
   refine ih (i+1) _ (by omega) hlt ?_ ?_ ?_ ?_ ?_ ?_
   · obtain⟨oi,hoi,r⟩:=it1
     exact⟨oi,(sb2.2 it (Ne.symm hdi)).trans hoi,r⟩
   · obtain⟨ol,hol,r⟩:=hl
     exact⟨ol,hk2 l _ (Ne.symm hdl) (Ne.symm hil) hol,r⟩
   · intro j x kv hx hkv
     obtain⟨t,e,⟨o,ho,r⟩,hu,n1,n2,n3,n4⟩:=hrow j x kv hx hkv
     exact⟨t,e,⟨o,hk2 t _ n1 n2 ho,r⟩,oW hu (fun o e=>hk2 _ o n3 n4 e),n1,n2,n3,n4⟩
   · rw [hsn];exact d2
   · intro x hx
     rw [hsn] at hx
     rcases zj hx with e | ⟨y,hy,e⟩
     · rw [e];exact hki
     · rw [e];exact hna y hy
   · intro h' tk hk' hd'
     exact hR h' tk (fun b o n1 n2 e=>hk' b o n1 n2 (hk2 b o n1 n2 e)) hd'
def Ml (rows:List (List Key × V)):List (List Key × V):=rows.foldl (fun acc r=>putK acc r.1 r.2) []
theorem NZ (rows:List (List Key × V)):(Ml rows).length≤rows.length:=by
 have aux:∀ (rows acc:List (List Key × V)),(rows.foldl (fun acc r=>putK acc r.1 r.2) acc).length≤acc.length+rows.length:=by
   intro rows
   induction rows with
   | nil=>intro acc;exact Nat.le_refl _
   | cons r rs ih =>
     intro acc
     have:=ih (putK acc r.1 r.2)
     have:=xC acc r.1 r.2
     rw [List.foldl_cons,List.length_cons]
     omega
 have:=aux rows []
 rw [List.length_nil,Nat.zero_add] at this
 exact this
def Wk (H:Hp) (x:V) (kv:List Key × V):Prop:=∃ a k,x=.ref a∧H a=some (.tup [.ref k,kv.2])∧H k=some (.tup (kv.1.map kV))
theorem Kz {P:Program}{w:World}{H:Hp}{h:Heap} (ok:mW P w H h) {ts:List V}{rows:List (List Key × V)} (hp:Paired (Wk H) ts rows):∀ {its:List Value},Vals ts its →
   ∃ vs:List (List Key × Addr × Value),KT H rows vs∧∀ (j:Nat) (x:Value) (kv:List Key × Addr × Value),its[j]? = some x→vs[j]? = some kv→∃ t,x=.ref t∧(∃ ys,H t=some (.tup ys))∧IsTup h t #[.ref kv.2.1,kv.2.2]∧(tupleKind (aO P w)).is h kv.1 kv.2.1:=by
 induction hp with
 | nil=>intro its q;cases q;exact⟨[],.nil,fun j x kv e=>by simp at e⟩
 | cons r rs ih =>
   intro its q
   cases q with
   | cons q qs =>
     obtain⟨vs,hv,h2⟩:=ih qs
     obtain⟨a,k,rfl,ha,hk⟩:=r
     cases q
     obtain⟨_,us,ru,ht⟩:=(show bC P w H h a (.tup _) from ok a _ ha)
     cases ru with
     | cons r1 ru =>
       cases ru with
       | cons r2 ru =>
         cases ru
         cases r1
         refine⟨(_,k,_)::vs,.cons ⟨rfl,hk,r2⟩ hv,fun j x kv e1 e2=>?_⟩
         cases j with
         | zero =>
           cases e1;cases e2
           exact⟨a,rfl,⟨_,ha⟩,ht,mZ ok hk⟩
         | succ j=>exact h2 j x kv e1 e2
theorem HS {H:Hp}{rows:List (List Key × V)}{vs:List (List Key × Addr × Value)} (h:KT H rows vs):KT H (Ml rows) (fK vs):=by
 have aux:∀ {rows:List (List Key × V)}{vs:List (List Key × Addr × Value)},KT H rows vs→∀ {acc:List (List Key × V)}{ac2:List (List Key × Addr × Value)},KT H acc ac2→KT H (rows.foldl (fun acc r=>putK acc r.1 r.2) acc) (vs.foldl (fun acc r=>storedH acc r.1 r.2.1 r.2.2) ac2):=by
   intro rows vs h
   induction h with
   | nil=>intro acc ac2 a;exact a
   | @cons p q ps qs r t ih =>
     intro acc ac2 a
     obtain⟨e,h1,h2⟩:=r
     have:=a.put p.1 h1 h2
     rw [List.foldl_cons,List.foldl_cons,← e]
     exact ih this
 exact aux h .nil
theorem rO {X:Cx} (hc:X.calm=true) (hu:X.A.units+20<cLine):cZ X (.type "dict") (fun xs H Q=>∃ p ts rows,xs=[.ref p]∧H p=some (.lst ts)∧Paired (Wk H) ts rows∧∀ d,H d=none→Q (.ref d) (upd H d (.dT (Ml rows)))):=by
 intro pins s σ H xs us Q I r h
 obtain⟨p,ts,rows,rfl,hp,hrw,q⟩:=h
 obtain⟨u,rfl,ru⟩:=r.one
 cases ru
 obtain⟨hz,its,n,rv,ho⟩:=(show bC X.prog X.w H s.heap p (.lst ts) from I.hok p _ hp)
 obtain⟨vs,hv,hrow⟩:=Kz I.hok hrw rv
 have big:=I.big
 have hand:X.A.handled=none:=I.ok.hd hc
 have Ry:its.length=vs.length:=by rw [← rv.length,← Paired.length hv];exact Paired.length hrw
 have hpl:=Heap.lt_size ho
 refine callType_codes (Q₁:=fun obj s₁=>obj=.ref s.heap.objs.size∧s₁={ s with heap:=s.heap.push { cls:=.type "dict",data:=.dict #[] } }) PySem.F.kt_called_dict (PySem.F.kt_typeCall_dict_1 _) PySem.F.entry_dict_init (kt_code_dict_new _ ⟨rfl,rfl⟩) ?_
 rintro obj s₁ ⟨rfl,rfl⟩
 have new:(s.heap.push { cls:=.type "dict",data:=.dict #[] }).DictOf (aO X.prog X.w) s.heap.objs.size []:=Heap.DictOf.new s.heap
 have ae4:(s.heap.push { cls:=.type "dict",data:=.dict #[] }).DictOfH (tupleKind (aO X.prog X.w)) s.heap.objs.size []:=⟨_,#[],0,Heap.get?_push_size _ rfl,⟨rfl,rfl,rfl⟩,rfl,rfl,(fun x hx=>nomatch hx),List.nodup_nil⟩
 refine⟨new.typeIs,PySem.F.args_dict_init_2 _ _,?_⟩
 unfold Builtin.«dict.__init__» Builtin.Dict.selfAndRest
 refine wpAny_bind (wpAny_bind (wpAny_notOrdered_dict new.typeIs ?_))
 show wpAny _ _ (pure (s.heap.objs.size,[Value.ref p])) _ _ _
 refine wpAny_pure ?_
 show wpAny _ _ (Builtin.Dict.updateFrom "dict.__init__" _ (.ref p) [] .none) _ _ _
 unfold Builtin.Dict.updateFrom
 have ho1:=Heap.get?_push_of_some { cls:=.type "dict",data:=.dict #[] } ho
 refine wpAny_bind (wpAny_typeOf (T:="list") ⟨_,ho1,rfl⟩ ?_)
 rw [if_pos (by decide)]
 refine wpAny_bind (BX ho1 (show X.A.in1.in1.handled=none from hand) fun h1 tk1 e1 x1=>?_)
 rw [if_pos (by rfl)]
 have ho2:=x1.keeps _ _ ho1
 have hl2:h1.IsList p its.toArray:=⟨_,ho2,rfl,n,rfl⟩
 refine wpAny_bind (wpAny_rule (wpAny_bind (wpAny_pyIter_list (s:={ s with heap:=h1,toks:=tk1 }) hl2 ?_)))
 have hsz1:s.heap.objs.size<h1.objs.size:=by
   obtain⟨o,_,_,ho,_⟩:=id new
   exact Heap.lt_size (x1.keeps _ _ ho)
 have kk:∀ b o,s.heap.get? b=some o→(h1.push { cls:=.type "list_iterator",data:=.fields #[.ref p,.int 0 0] }).get? b=some o:=fun b o e=>Heap.get?_push_of_some _ (x1.keeps b o (Heap.get?_push_of_some _ e))
 refine wpAny_pure ⟨plainId_quiet (by symm) _,?_⟩
 refine Ef (rows:=vs) (l:=p) (items:=its.toArray) (Nat.ne_of_lt hsz1) (Nat.ne_of_gt hpl) (Nat.ne_of_gt (Nat.lt_trans hpl hsz1)) (by first | exact hand | (rw [Around.under_plainId (by symm)];exact hand)) (by simpa using Ry) (by rw [← Ry,← rv.length];exact hz) (show X.A.units+1+1<cLine by omega) _ 0 _ rfl (Nat.zero_le _) ?_ ?_ ?_ ?_ ?_ ?_
 · exact⟨_,Heap.get?_push_size _ rfl,rfl,rfl⟩
 · exact⟨_,kk _ _ ho,rfl,n,rfl⟩
 · intro j x kv e1 e2
   obtain⟨t,ex,⟨ys,hys⟩,⟨o,hot,r⟩,hku⟩:=hrow j x kv (by simpa using e1) e2
   have ht:=Heap.lt_size hot
   obtain⟨ok',vk,nk,hk1,hk2⟩:=id hku
   have hkl:=Heap.lt_size hk1
   exact⟨t,ex,⟨o,kk _ _ hot,r⟩,oW hku (fun o e=>kk _ _ e),Nat.ne_of_lt ht,Nat.ne_of_lt (Nat.lt_trans ht hsz1),Nat.ne_of_lt hkl,Nat.ne_of_lt (Nat.lt_trans hkl hsz1)⟩
 · exact pU ae4 (fun o e=>Heap.get?_push_of_some _ (x1.keeps _ _ e)) fun x hx=>nomatch hx
 · intro x hx;exact nomatch hx
 · intro h' tk hk' hd'
   obtain⟨od,es,ep,hq,h2,h3,h4,_,h5⟩:=hd'
   have hfr:=I.hok.fresh (a:=s.heap.objs.size) (Nat.le_refl _)
   refine⟨rfl,.ref s.heap.objs.size,_,I.laid (a:=s.heap.objs.size) (o:=.dT (Ml rows)) (h':=h') (t':=tk) (fun b o e=>?_) (Nat.le_refl _) ⟨?_,beq_eq_false_iff_ne.mpr (Ne.symm (Nat.ne_of_lt big)),_,(HS hv).keeps (fun b ys e=>by rw [zG (zC e hfr)];exact e),od,es,ep,hq,h2,h3,h4,h5⟩,rfl,q _ hfr⟩
   · have hb:=Heap.lt_size e
     exact hk' b o (Nat.ne_of_lt hb) (Nat.ne_of_lt (Nat.lt_trans hb hsz1)) (kk b o e)
   · have e1:=NZ rows
     rw [Paired.length hv,← Ry,← rv.length] at e1
     exact Nat.le_trans e1 hz
end L2
namespace jm
open PySem L2
def top (i:Nat):Stmt:=PySem.Challenge.pw_askpaper_k37_sayings_checks_and_ways.main.body.getD i (.Pass ⟨0,0,0,0⟩)
abbrev bu:Stmt:=inClass (top 9) 0
abbrev aX:Stmt:=inClass (top 10) 0
abbrev bD:Stmt:=inClass (top 10) 1
abbrev aP:Stmt:=inClass (top 10) 2
abbrev bF:Stmt:=inClass (top 10) 4
abbrev bG:Stmt:=inClass (top 13) 0
abbrev bH:Stmt:=inClass (top 14) 0
abbrev aY:Stmt:=inClass (top 15) 0
abbrev aZ:Stmt:=inClass (top 16) 0
abbrev bc:Stmt:=inClass (top 17) 0
abbrev cT:Stmt:=top 19
abbrev cD:Stmt:=top 20
abbrev bI:Stmt:=top 24
abbrev bf:Stmt:=inClass (top 25) 0
abbrev bJ:Stmt:=inClass (top 25) 4
abbrev aQ:Stmt:=inClass (top 25) 5
abbrev aV:Stmt:=inClass (top 25) 6
abbrev aR:Stmt:=inClass (top 25) 8
abbrev aH:Stmt:=inClass (top 25) 9
abbrev aJ:Stmt:=inClass (top 25) 10
abbrev aK:Stmt:=inClass (top 25) 11
abbrev bw:Stmt:=inClass (top 25) 12
abbrev bY:Stmt:=inClass (top 25) 13
abbrev aU:Stmt:=inClass (top 26) 0
abbrev aG:Stmt:=inClass (top 26) 1
abbrev bh:Stmt:=inClass (top 26) 2
abbrev aL:Stmt:=inClass (top 26) 3
abbrev aB:Stmt:=inClass (top 26) 4
abbrev cU:Stmt:=top 27
abbrev cV:Stmt:=top 29
abbrev bK:Stmt:=inClass (top 32) 0
abbrev bL:Stmt:=inClass (top 32) 3
abbrev bZ:Stmt:=inClass (top 32) 4
abbrev bM:Stmt:=inClass (top 33) 0
abbrev bx:Stmt:=inClass (top 33) 3
abbrev bT:Stmt:=inClass (top 33) 4
abbrev cW:Stmt:=top 35
abbrev cX:Stmt:=top 36
abbrev b7:Stmt:=top 37
abbrev b8:Stmt:=top 38
abbrev cg:Stmt:=top 39
abbrev cF:Stmt:=top 40
abbrev cY:Stmt:=top 41
abbrev cG:Stmt:=top 42
abbrev cH:Stmt:=top 43
abbrev qK:Stmt:=top 44
set_option genInjectivity false
set_option genSizeOf false
structure cJ where
 iD:Addr
 iG:FuncData
 gn:Addr
 gq:FuncData
 jn:Addr
 jo:FuncData
 d8:Addr
 d9:FuncData
 jq:Addr
 jr:FuncData
 jt:Addr
 ju:FuncData
 jw:Addr
 jx:FuncData
 uf:List Value
 gA:Addr
 gB:FuncData
 qL:List Value
 gC:Addr
 gD:FuncData
 gG:Addr
 gH:FuncData
 lF:Addr
 pW:FuncData
 jN:Addr
 m7:FuncData
 fL:Addr
 jy:FuncData
 gJ:Addr
 gM:FuncData
 jz:Addr
 jA:FuncData
 eE:Addr
 eF:FuncData
 fu:Addr
 fB:FuncData
 eN:Addr
 eO:FuncData
 dJ:Addr
 dM:FuncData
 dN:Addr
 dO:FuncData
 dR:Addr
 dU:FuncData
 iH:Addr
 iI:FuncData
 lG:Addr
 lH:FuncData
 eQ:Addr
 eU:FuncData
 du:Addr
 dw:FuncData
 gO:Addr
 gP:FuncData
 dW:Addr
 dX:FuncData
 dz:Addr
 aF:FuncData
 lJ:Addr
 pX:FuncData
 lK:Addr
 pY:FuncData
 jY:Addr
 gU:FuncData
 jB:List Value
 jC:Addr
 jD:FuncData
 lM:Addr
 lN:FuncData
 jE:Addr
 jF:FuncData
 iJ:Addr
 iK:FuncData
 jZ:Addr
 j0:FuncData
 lO:Addr
 pZ:FuncData
 lQ:Addr
 p6:FuncData
 iZ:Addr
 lR:FuncData
 jb:Addr
 lU:FuncData
 jc:Addr
 lV:FuncData
 jO:Addr
 m8:FuncData
 lW:Addr
 qb:FuncData
 jP:Addr
 m9:FuncData
 jQ:Addr
 nu:FuncData
 KC:Addr
 KD:FuncData
 kE:Addr
 jR:Addr
 fM:Addr
 GJ:Addr
 rP:Addr
 KH:Addr
 nA:Addr
 fc:Addr
 Eg:Addr
 Qe:Addr
 gW:Addr
 aj:Addr
 cj:Addr
structure Txt (K:W.Frag) (mg:Str→Option Value) (A:cJ):Prop where
 ug:iT K "__init__" "Kind.__init__" bu A.iD A.iG
 uh:Binds K A.iG ["self","low","high"] []
 rQ:iT K "__init__" "YesNo.__init__" aX A.gn A.gq
 rR:Binds K A.gq ["self"] []
 vB:iT K "fits" "YesNo.fits" bD A.jn A.jo
 vC:Binds K A.jo ["self","thing"] []
 o4:iT K "answer_of" "YesNo.answer_of" aP A.d8 A.d9
 o5:Binds K A.d9 ["self","text"] []
 vD:iT K "rank" "YesNo.rank" bF A.jq A.jr
 vG:Binds K A.jr ["self","answer"] []
 vH:iT K "__init__" "Row.__init__" bG A.jt A.ju
 nC:Binds K A.ju ["self","name"] []
 vI:Bw K "__init__" "Ask.__init__" bH A.uf A.jw A.jx
 vJ:Binds K A.jx ["self","name","kind","when"] []
 rT:Bw K "__init__" "Check.__init__" aY A.qL A.gA A.gB
 rU:Binds K A.gB ["self","name","test","firm"] []
 rW:iT K "__init__" "Sheet.__init__" aZ A.gC A.gD
 rY:Binds K A.gD ["self","name","each","rows","ways"] []
 rZ:iT K "__init__" "Paper.__init__" bc A.gG A.gH
 sr:Binds K A.gH ["self","name","sheets","totals"] []
 Eh:iT K "kinds_of" "kinds_of" cT A.lF A.pW
 Ei:Binds K A.pW ["paper"] []
 Ej:W.keepIn K (.ref A.lF)=true
 Ek:mg "kinds_of" = some (.ref A.lF)
 Ce:iT K "eaches_of" "eaches_of" cD A.jN A.m7
 Cg:Binds K A.m7 ["paper"] []
 Ci:W.keepIn K (.ref A.jN)=true
 Cj:mg "eaches_of" = some (.ref A.jN)
 vK:iT K "all_together" "all_together" bI A.fL A.jy
 vL:Binds K A.jy ["paper"] []
 vM:W.keepIn K (.ref A.fL)=true
 vN:mg "all_together" = some (.ref A.fL)
 su:iT K "__init__" "Going.__init__" bf A.gJ A.gM
 sy:Binds K A.gM ["self","paper","alone"] []
 vO:iT K "note" "Going.note" bJ A.jz A.jA
 vP:Binds K A.jA ["self","question","thing","known"] []
 o6:iT K "own_thing" "Going.own_thing" aQ A.eE A.eF
 o7:Binds K A.eF ["self","question","thing"] []
 qd:iT K "known_of" "Going.known_of" aV A.fu A.fB
 qe:Binds K A.fB ["self","question","thing"] []
 o8:iT K "stop_with" "Going.stop_with" aR A.eN A.eO
 o9:Binds K A.eO ["self","row"] []
 nD:iT K "take_check" "Going.take_check" aH A.dJ A.dM
 nF:Binds K A.dM ["self","check","thing"] []
 nG:iT K "go_through" "Going.go_through" aJ A.dN A.dO
 nH:Binds K A.dO ["self","sheet","thing"] []
 nJ:iT K "targets_of" "Going.targets_of" aK A.dR A.dU
 nM:Binds K A.dU ["self","sheet"] []
 um:iT K "leave" "Going.leave" bw A.iH A.iI
 uo:Binds K A.iI ["self","place"] []
 zm:iT K "go" "Going.go" bY A.lG A.lH
 zp:Binds K A.lH ["self"] []
 ph:iT K "__init__" "Straight.__init__" aU A.eQ A.eU
 pq:Binds K A.eU ["self","paper","book"] []
 lX:iT K "things_of" "Straight.things_of" aG A.du A.dw
 lY:Binds K A.dw ["self","sheet"] []
 sE:iT K "put" "Straight.put" bh A.gO A.gP
 sI:Binds K A.gP ["self","question","thing"] []
 nO:iT K "rank_of" "Straight.rank_of" aL A.dW A.dX
 nP:Binds K A.dX ["self","name","thing"] []
 qg:iT K "is_so" "Straight.is_so" aB A.dz A.aF
 qi:Binds K A.aF ["self","saying","thing"] []
 El:iT K "straight" "straight" cU A.lJ A.pX
 Em:Binds K A.pX ["paper","book"] []
 En:W.keepIn K (.ref A.lJ)=true
 Eo:mg "straight" = some (.ref A.lJ)
 Ep:iT K "compares" "compares" cV A.lK A.pY
 Er:Binds K A.pY ["rank","how","number"] []
 Es:W.keepIn K (.ref A.lK)=true
 Et:mg "compares" = some (.ref A.lK)
 wK:Bw K "__init__" "Is.__init__" bK A.jB A.jY A.gU
 wL:Binds K A.gU ["self","name","word","place"] []
 nQ:Binds K A.gU ["self","name","word","place"] A.jB
 nR:Vals [.non] A.jB
 vQ:iT K "settled" "Is.settled" bL A.jC A.jD
 vR:Binds K A.jD ["self","kinds"] []
 zr:iT K "holds" "Is.holds" bZ A.lM A.lN
 zu:Binds K A.lN ["self","look"] []
 vU:iT K "__init__" "Not.__init__" bM A.jE A.jF
 nT:Binds K A.jF ["self","test"] []
 uq:iT K "settled" "Not.settled" bx A.iJ A.iK
 ur:Binds K A.iK ["self","kinds"] []
 wM:iT K "holds" "Not.holds" bT A.jZ A.j0
 wN:Binds K A.j0 ["self","look"] []
 Eu:iT K "_law_cell" "_law_cell" cW A.lO A.pZ
 fD:Binds K A.pZ ["_law_script","_law_k"] []
 fG:W.keepIn K (.ref A.lO)=true
 fH:mg "_law_cell" = some (.ref A.lO)
 Ew:iT K "_law_name" "_law_name" cX A.lQ A.p6
 Ex:Binds K A.p6 ["_law_script","_law_k"] []
 Ey:W.keepIn K (.ref A.lQ)=true
 Ez:mg "_law_name" = some (.ref A.lQ)
 zx:iT K "_law_saying" "_law_saying" b7 A.iZ A.lR
 qM:Binds K A.lR ["_law_cell_here","_law_asked"] []
 qN:W.keepIn K (.ref A.iZ)=true
 qO:mg "_law_saying" = some (.ref A.iZ)
 zy:iT K "_law_spoken" "_law_spoken" b8 A.jb A.lU
 lZ:Binds K A.lU ["_law_saying_here"] []
 mj:W.keepIn K (.ref A.jb)=true
 mq:mg "_law_spoken" = some (.ref A.jb)
 Aa:iT K "_law_sheets" "_law_sheets" cg A.jc A.lV
 Ab:Binds K A.lV ["_law_script"] []
 Ac:W.keepIn K (.ref A.jc)=true
 Ad:mg "_law_sheets" = some (.ref A.jc)
 Ck:iT K "_law_holds" "_law_holds" cF A.jO A.m8
 nU:Binds K A.m8 ["_law_saying_here","_law_book","_law_asked"] []
 nW:W.keepIn K (.ref A.jO)=true
 nY:mg "_law_holds" = some (.ref A.jO)
 EY:iT K "_law_rows" "_law_rows" cY A.lW A.qb
 Fb:Binds K A.qb ["_law_rows_here","_law_book","_law_asked","_law_log"] []
 Fd:W.keepIn K (.ref A.lW)=true
 Fe:mg "_law_rows" = some (.ref A.lW)
 Cm:iT K "_law_going" "_law_going" cG A.jP A.m9
 Cp:Binds K A.m9 ["_law_sheets_here","_law_book"] []
 Cq:W.keepIn K (.ref A.jP)=true
 Cr:mg "_law_going" = some (.ref A.jP)
 Cu:iT K "_law_paper" "_law_paper" cH A.jQ A.nu
 Cv:Binds K A.nu ["_law_sheets_here"] []
 Cw:W.keepIn K (.ref A.jQ)=true
 Cy:mg "_law_paper" = some (.ref A.jQ)
 Qf:iT K "law" "law" qK A.KC A.KD
 Wl:mg "law" = some (.ref A.KC)
 sJ:mg "WRITTEN_TRUTHS" = some (.ref A.kE)
 sO:Rm K A.kE [("yes",true),("no",false)]
 Ff:mg "bool" = none
 KJ:mg "dict" = none
 nZ:mg "enumerate" = none
 cB:mg "isinstance" = none
 qP:mg "len" = none
 sS:mg "list" = none
 uN:mg "range" = none
 N5:mg "tuple" = none
 uv:W.kitOne K (.type "NoneType") (.type "bool")=some false
 tU:W.kitOne K (.type "bool") (.type "bool")=some true
 Cz:W.kitOne K (.type "list") (.type "list")=some true
 wO:W.kitOne K (.type "tuple") (.type "tuple")=some true
 Wm:mg "Ask" = some (.ref A.jR)
 KN:Gn mg "Ask" (.ref A.jR)
 N6:mg "Check" = some (.ref A.fM)
 N7:mg "Going" = some (.ref A.GJ)
 Rz:mg "Is" = some (.ref A.rP)
 RB:mg "Kind" = some (.ref A.KH)
 Qg:mg "Not" = some (.ref A.nA)
 N8:mg "Paper" = some (.ref A.fc)
 RC:Gn mg "Pick" (.ref A.Eg)
 Qh:mg "Row" = some (.ref A.Qe)
 Oa:mg "Sheet" = some (.ref A.gW)
 Fg:mg "Straight" = some (.ref A.aj)
 Ob:mg "YesNo" = some (.ref A.cj)
 Oc:Gn mg "YesNo" (.ref A.cj)
 qj:W.kitOne K (.ref A.jR) (.ref A.jR)=some true
 my:W.kitOne K (.ref A.fM) (.ref A.jR)=some false
 vV:W.kitOne K (.ref A.cj) (.ref A.cj)=some true
 wQ:W.kitOne K (.ref A.cj) (.ref A.Eg)=some false
 qQ:ym K A.cj
 KQ:∀ (H:Hp) (a dx:Addr) (fs:List (Str × V)),H a=some (.ins A.cj dx fs)→aN K H (.ref a) (.ref A.cj)
 KR:Mk K A.cj A.gn
 wR:Meth K A.cj "fits" A.jn
 ql:Meth K A.cj "answer_of" A.d8
 wU:Meth K A.cj "rank" A.jq
 Ae:aW K A.cj "low"
 wV:aW K A.cj "high"
 oh:ym K A.jR
 Fi:∀ (H:Hp) (a dx:Addr) (fs:List (Str × V)),H a=some (.ins A.jR dx fs)→aN K H (.ref a) (.ref A.jR)
 RD:Mk K A.jR A.jw
 jT:aW K A.jR "name"
 tV:aW K A.jR "kind"
 tW:aW K A.jR "when"
 fO:ym K A.fM
 vW:∀ (H:Hp) (a dx:Addr) (fs:List (Str × V)),H a=some (.ins A.fM dx fs)→aN K H (.ref a) (.ref A.fM)
 KY:Mk K A.fM A.gA
 eV:aW K A.fM "name"
 pK:aW K A.fM "test"
 pL:aW K A.fM "firm"
 dF:ym K A.gW
 KZ:Mk K A.gW A.gC
 j4:aW K A.gW "name"
 j5:aW K A.gW "each"
 gY:aW K A.gW "rows"
 pM:aW K A.gW "ways"
 eY:ym K A.fc
 K4:Mk K A.fc A.gG
 wW:aW K A.fc "name"
 cz:aW K A.fc "sheets"
 mK:aW K A.fc "totals"
 au:ym K A.aj
 CG:Mk K A.aj A.eQ
 mQ:Meth K A.aj "things_of" A.du
 uw:Meth K A.aj "put" A.gO
 qR:Meth K A.aj "is_so" A.dz
 sU:Meth K A.aj "note" A.jz
 mR:Meth K A.aj "stop_with" A.eN
 mz:Meth K A.aj "take_check" A.dJ
 mC:Meth K A.aj "go_through" A.dN
 mD:Meth K A.aj "targets_of" A.dR
 qT:Meth K A.aj "leave" A.iH
 vX:Meth K A.aj "go" A.lG
 mU:Meth K A.aj "own_thing" A.eE
 ou:Meth K A.aj "known_of" A.fu
 pA:Meth K A.aj "rank_of" A.dW
 cN:aW K A.aj "paper"
 dG:aW K A.aj "alone"
 fP:aW K A.aj "kinds"
 jG:aW K A.aj "eaches"
 il:aW K A.aj "together"
 cO:aW K A.aj "asked"
 cL:aW K A.aj "log"
 iU:aW K A.aj "doubles"
 bA:aW K A.aj "over"
 kI:aW K A.aj "book"
 oA:ym K A.rP
 K5:Mk K A.rP A.jY
 wX:Meth K A.rP "settled" A.jC
 CJ:Meth K A.rP "holds" A.lM
 mF:aW K A.rP "name"
 qm:aW K A.rP "word"
 tX:aW K A.rP "place"
 vY:ym K A.nA
 K6:Mk K A.nA A.jE
 vZ:Meth K A.nA "settled" A.iJ
 Af:Meth K A.nA "holds" A.jZ
 oE:aW K A.nA "test"
 wY:Gu K A.GJ "__init__" A.gJ
 Ag:Gu K A.KH "__init__" A.iD
 tY:Gu K A.Qe "__init__" A.jt
theorem sV:aC ["self","low","high"] ["self","low","high"] (aa bu):=⟨rfl,rfl,rfl,by symm,rfl,by symm,by symm⟩
theorem qU:aC ["self"] ["self"] (aa aX):=⟨rfl,rfl,rfl,by symm,rfl,by symm,by symm⟩
theorem ux:aC ["self","thing"] ["self","thing"] (aa bD):=⟨rfl,rfl,rfl,by symm,rfl,by symm,by symm⟩
theorem oF:aC ["self","text"] ["self","text"] (aa aP):=⟨rfl,rfl,rfl,by symm,rfl,by symm,by symm⟩
theorem uy:aC ["self","answer"] ["self","answer"] (aa bF):=⟨rfl,rfl,rfl,by symm,rfl,by symm,by symm⟩
theorem uz:aC ["self","name"] ["self","name"] (aa bG):=⟨rfl,rfl,rfl,by symm,rfl,by symm,by symm⟩
theorem uA:aC ["self","name","kind","when"] ["self","name","kind","when"] (aa bH):=⟨rfl,rfl,rfl,by symm,rfl,by symm,by symm⟩
theorem qW:aC ["self","name","test","firm"] ["self","name","test","firm"] (aa aY):=⟨rfl,rfl,rfl,by symm,rfl,by symm,by symm⟩
theorem qX:aC ["self","name","each","rows","ways"] ["self","name","each","rows","ways"] (aa aZ):=⟨rfl,rfl,rfl,by symm,rfl,by symm,by symm⟩
theorem qY:aC ["self","name","sheets","totals"] ["self","name","sheets","totals"] (aa bc):=⟨rfl,rfl,rfl,by symm,rfl,by symm,by symm⟩
theorem jU:aC ["paper","kinds","sheet","row"] ["paper"] (aa cT):=⟨rfl,rfl,rfl,by symm,rfl,by symm,by symm⟩
theorem jd:aC ["paper","eaches","sheet","row"] ["paper"] (aa cD):=⟨rfl,rfl,rfl,by symm,rfl,by symm,by symm⟩
theorem uB:aC ["paper"] ["paper"] (aa bI):=⟨rfl,rfl,rfl,by symm,rfl,by symm,by symm⟩
theorem qZ:aC ["self","paper","alone"] ["self","paper","alone"] (aa bf):=⟨rfl,rfl,rfl,by symm,rfl,by symm,by symm⟩
theorem uC:aC ["self","question","thing","known"] ["self","question","thing","known"] (aa bJ):=⟨rfl,rfl,rfl,by symm,rfl,by symm,by symm⟩
theorem oG:aC ["self","question","thing"] ["self","question","thing"] (aa aQ):=⟨rfl,rfl,rfl,by symm,rfl,by symm,by symm⟩
theorem pB:aC ["self","question","thing"] ["self","question","thing"] (aa aV):=⟨rfl,rfl,rfl,by symm,rfl,by symm,by symm⟩
theorem oH:aC ["self","row"] ["self","row"] (aa aR):=⟨rfl,rfl,rfl,by symm,rfl,by symm,by symm⟩
theorem fY:aC ["self","check","thing","passes"] ["self","check","thing"] (aa aH):=⟨rfl,rfl,rfl,by symm,rfl,by symm,by symm⟩
theorem fZ:aC ["self","sheet","thing","row"] ["self","sheet","thing"] (aa aJ):=⟨rfl,rfl,rfl,by symm,rfl,by symm,by symm⟩
theorem cI:aC ["self","sheet","targets","target","saying"] ["self","sheet"] (aa aK):=⟨rfl,rfl,rfl,by symm,rfl,by symm,by symm⟩
theorem dZ:aC ["self","place","sheet","targets","names"] ["self","place"] (aa bw):=⟨rfl,rfl,rfl,by symm,rfl,by symm,by symm⟩
theorem eZ:aC ["self","place","sheet","thing"] ["self"] (aa bY):=⟨rfl,rfl,rfl,by symm,rfl,by symm,by symm⟩
theorem oJ:aC ["self","paper","book"] ["self","paper","book"] (aa aU):=⟨rfl,rfl,rfl,by symm,rfl,by symm,by symm⟩
theorem kJ:aC ["self","sheet"] ["self","sheet"] (aa aG):=⟨rfl,rfl,rfl,by symm,rfl,by symm,by symm⟩
theorem fQ:aC ["self","question","thing","kind","answer"] ["self","question","thing"] (aa bh):=⟨rfl,rfl,rfl,by symm,rfl,by symm,by symm⟩
theorem mV:aC ["self","name","thing","together"] ["self","name","thing"] (aa aL):=⟨rfl,rfl,rfl,by symm,rfl,by symm,by symm⟩
theorem pC:aC ["self","saying","thing"] ["self","saying","thing"] (aa aB):=⟨rfl,rfl,rfl,by symm,rfl,by symm,by symm⟩
theorem tZ:aC ["paper","book","going"] ["paper","book"] (aa cU):=⟨rfl,rfl,rfl,by symm,rfl,by symm,by symm⟩
theorem CK:aC ["rank","how","number"] ["rank","how","number"] (aa cV):=⟨rfl,rfl,rfl,by symm,rfl,by symm,by symm⟩
theorem v5:aC ["self","name","word","place"] ["self","name","word","place"] (aa bK):=⟨rfl,rfl,rfl,by symm,rfl,by symm,by symm⟩
theorem iM:aC ["self","kinds","kind","answer"] ["self","kinds"] (aa bL):=⟨rfl,rfl,rfl,by symm,rfl,by symm,by symm⟩
theorem wZ:aC ["self","look"] ["self","look"] (aa bZ):=⟨rfl,rfl,rfl,by symm,rfl,by symm,by symm⟩
theorem uD:aC ["self","test"] ["self","test"] (aa bM):=⟨rfl,rfl,rfl,by symm,rfl,by symm,by symm⟩
theorem sW:aC ["self","kinds"] ["self","kinds"] (aa bx):=⟨rfl,rfl,rfl,by symm,rfl,by symm,by symm⟩
theorem v9:aC ["self","look"] ["self","look"] (aa bT):=⟨rfl,rfl,rfl,by symm,rfl,by symm,by symm⟩
theorem oK:aC ["_law_script","_law_k","_law_number"] ["_law_script","_law_k"] (aa cW):=⟨rfl,rfl,rfl,by symm,rfl,by symm,by symm⟩
theorem oM:aC ["_law_script","_law_k","_law_some","_law_pad"] ["_law_script","_law_k"] (aa cX):=⟨rfl,rfl,rfl,by symm,rfl,by symm,by symm⟩
theorem w5:aC ["_law_cell_here","_law_asked"] ["_law_cell_here","_law_asked"] (aa b7):=⟨rfl,rfl,rfl,by symm,rfl,by symm,by symm⟩
theorem w6:aC ["_law_saying_here"] ["_law_saying_here"] (aa b8):=⟨rfl,rfl,rfl,by symm,rfl,by symm,by symm⟩
theorem bj:aC ["_law_script","_law_sheets_here","_law_asked","_law_many","_law_s","_law_rows_here","_law_r","_law_cell_here","_law_name_here","_law_saying_here","_law_ways","_law_k"] ["_law_script"] (aa cg):=⟨rfl,rfl,rfl,by symm,rfl,by symm,by symm⟩
theorem Ah:aC ["_law_saying_here","_law_book","_law_asked"] ["_law_saying_here","_law_book","_law_asked"] (aa cF):=⟨rfl,rfl,rfl,by symm,rfl,by symm,by symm⟩
theorem ir:aC ["_law_rows_here","_law_book","_law_asked","_law_log","_law_what","_law_name_here","_law_saying_here","_law_firm"] ["_law_rows_here","_law_book","_law_asked","_law_log"] (aa cY):=⟨rfl,rfl,rfl,by symm,rfl,by symm,by symm⟩
theorem cQ:aC ["_law_sheets_here","_law_book","_law_log","_law_asked","_law_s","_law_rows_here","_law_ways","_law_led"] ["_law_sheets_here","_law_book"] (aa cG):=⟨rfl,rfl,rfl,by symm,rfl,by symm,by symm⟩
theorem bO:aC ["_law_sheets_here","_law_made","_law_s","_law_sheet","_law_rows_here","_law_what","_law_name_here","_law_saying_here","_law_firm","_law_ways","_law_aim"] ["_law_sheets_here"] (aa cH):=⟨rfl,rfl,rfl,by symm,rfl,by symm,by symm⟩
theorem iQ:aC ["_law_script","_law_sheets_here","_law_paper_here","_law_turn","_law_book","_law_s","_law_sheet","_law_r","_law_row","_law_cell_here","_law_found"] ["_law_script"] (aa qK):=⟨rfl,rfl,rfl,by symm,rfl,by symm,by symm⟩
seal PE PT PW PA PS mO PG uG PI PO j8 iB xr cZ j9 uI wD PC xV
local macro_rules | `(tactic| walk_at "rd1") => `(tactic| first
 | (refine And.intro rfl ?_)
 | (refine And.intro (by assumption) ?_)
 | (refine And.intro (fun _ e=>e) ?_)
 | (refine And.intro (aN.str _) ?_) | (refine And.intro (aN.int _) ?_) | (refine And.intro (aN.bl _) ?_) | (refine And.intro aN.non ?_)
 | (refine bU ?_) | (refine bN ?_)
 | (apply Exists.intro))
local macro_rules | `(tactic| walk_at "rd") => `(tactic| repeat (walk_at "rd1"))
theorem len_app (x y:Str):(x++y).length=x.length+y.length:=by rw [jl,rH,List.length_append,← jl,← jl]
theorem mG {t u:TS}{D:Ends}{σ:St}{H:Hp} (R:St→Hp→Prop) (hk:∀ σ' H',R σ' H'→u D σ' H') (hm:∀ N:St→Hp→Prop,(∀ σ' H',R σ' H'→N σ' H')→t { D with nx:=N } σ H):QG t u D σ H:=hm _ hk
theorem K7 (i:Int) (h0:0≤i) (h1:i<26):Jo ("abcdefghijklmnopqrstuvwxyz":Str).cps.toList i=some (97+i.toNat):=by
 have e:("abcdefghijklmnopqrstuvwxyz":Str).cps.toList=(List.range 26).map (97+·):=by symm
 obtain⟨c,hc,hc2⟩:=uJ (l:=("abcdefghijklmnopqrstuvwxyz":Str).cps.toList) h0 (by rw [e];simpa using h1)
 rw [hc]
 rw [e,List.getElem?_map,List.getElem?_range (by omega)] at hc2
 exact hc2.symm
theorem q9 {x:Int} (h0:0≤x) (h:x<2 ^ 63):ib x≤60000000:=Nat.le_trans (JH (by omega) (by omega)) (by decide)
theorem ibc {x:Int} (h:x.natAbs<2 ^ 256):ib x≤60000000:=Nat.le_trans (Ra (m:=256) h) (by decide)
theorem Wn {c:Bool}{A B:Prop} (h:c=true) (k:A):if c=true then A else B:=by rw [if_pos h];exact k
theorem Od {c:Bool}{A B:Prop} (h:c=false) (k:B):if c=true then A else B:=by rw [if_neg (by rw [h];decide)];exact k
theorem Oe {σ:St}{H:Hp}{a b:Hp→Prop} (h:a H):P0 σ H (fun c H3=>if c=true then a H3 else b H3):=by
 show if true=true then a H else b H
 exact bU h
theorem zJ {α β:Type}{R R':α→β→Prop}{as:List α}{bs:List β} (h:Paired R as bs) (f:∀ a b,R a b→R' a b):Paired R' as bs:=by
 induction h with
 | nil=>exact .nil
 | cons r _ ih=>exact .cons (f _ _ r) ih
theorem yO {α β:Type}{R:α→β→Prop}{as as':List α}{bs bs':List β} (h:Paired R as bs) (k:Paired R as' bs'):Paired R (as++as') (bs++bs'):=by
 induction h with
 | nil=>exact k
 | cons r _ ih=>exact .cons r ih
theorem yC {α β:Type}{R:α→β→Prop}:∀ {as:List α}{bs:List β}{i:Nat}{a:α},Paired R as bs→as[i]? = some a→∃ b,bs[i]? = some b∧R a b
 | _,_,0,_,.cons h _,e=>by cases e;exact⟨_,rfl,h⟩
 | _,_,i+1,_,.cons _ t,e=>yC (i:=i) t e
theorem mH {α β:Type}{R:α→β→Prop}:∀ {as:List α}{bs:List β}{i:Nat}{b:β},Paired R as bs→bs[i]? = some b→∃ a,as[i]? = some a∧R a b
 | _,_,0,_,.cons h _,e=>by cases e;exact⟨_,rfl,h⟩
 | _,_,i+1,_,.cons _ t,e=>mH (i:=i) t e
theorem zL {α β:Type}{R:α→β→Prop}{as:List α}{bs:List β} (h:Paired R as bs):as.length=bs.length:=Paired.length h
theorem xF {α:Type}{l:List α}{i:Nat}{x:α} (h:l[i]? = some x):l.take (i+1)=l.take i++[x]:=by rw [List.take_succ,h];rfl
def sqm (m:Int):Int:=m*m % 2147483629
def dj (ns:List Int) (k:Nat):Int :=
 if k<ns.length then ns.getD k 0 else sqm (if 0<ns.length then (k:Int)*48271+11+ns.getD (k*7 % ns.length) 0 % 2147483647*69621 else (k:Int)*48271+11)
def Ns (ns:List Int):Prop:=∀ n∈ns,ib n≤1048576
def RG (K:W.Frag):Sp:=fun vs H Q _=>∃ (a:Addr) (ns:List Int) (k:Nat),vs=[.ref a,.int k]∧bQ K H a (ns.map V.int)∧k<1000∧ns.length≤1000∧Ns ns∧Q (.int (dj ns k)) H
section
variable {P:Program}{w:World}{K:W.Frag}{mg:Str→Option Value}{base:Heap}{A:cJ}
theorem oN (T:Txt K mg A):bz P w K mg base bW 1 A.lO A.pZ ["_law_script","_law_k"] (RG K):=by
 refine T.Eu.ok oK (fun vs H Q E h=>?_) (fun cdv A0 outer s H vs Q E hr h=>?_)
 · obtain⟨a,ns,k,rfl,_⟩:=h
   rfl
 obtain⟨a,ns,k,rfl,hS,hk,hl,hb,q⟩:=h
 refine⟨_,(zE (yH (zZ Gi (pv 1) (yI yM (by rfl) T.qP PySem.boot_len (zA (pv 0) zD)) (yE _)) (zF (zO (yX xM (pv 0) (pv 1) (fun _ _=>rfl)))) zV)
     (zE (zU (i:=2) oK.nd rfl ‹0› (zM xA (zM jL (pv 1) zI) zI))
     (zE (yH (zZ Jg (yI yM (by rfl) T.qP PySem.boot_len (zA (pv 0) zD)) zI (yE _)) (zF (zU (i:=2) oK.nd rfl ‹0› (zM xA (pv 2) (zM jL (zM yW (yX xM (pv 0) (zM yW (zM jL (pv 1) zI) (yI yM (by rfl) T.qP PySem.boot_len (zA (pv 0) zD))) (fun _ _=>rfl)) zI) zI)))) zV)
     (zF (zO (zM yW (zM jL (pv 2) (pv 2)) zI)))))),?_⟩
 have eL:((ns.map V.int).length:Nat)=ns.length:=List.length_map ..
 refine⟨_,rfl,_,rfl,a,_,rfl,.inl hS,_,_,rfl,rfl,_,rfl,?_⟩
 refine yw (fun c=>?_) (fun c=>?_)
 · have c':(k:Int)<((ns.map V.int).length:Nat):=of_decide_eq_true c
   have c2:k<ns.length:=by rw [eL] at c';omega
   obtain⟨v,hv,hv2⟩:=uJ (l:=ns.map V.int) (i:=(k:Int)) (by omega) c'
   obtain⟨n,hn,rfl⟩:=uK hv2
   have e:dj ns k=n:=by
     unfold dj
     rw [if_pos c2,List.getD_eq_getElem?_getD,show ns[k]? = some n from hn]
     rfl
   exact⟨_,rfl,_,rfl,a,_,_,_,rfl,rfl,hS,hv,by rw [← e];exact q⟩
 · have c2:¬ k<ns.length:=fun z=>c (decide_eq_true (by rw [eL];omega))
   unfold dj at q
   rw [if_neg c2] at q
   refine⟨_,rfl,_,_,rfl,rfl,⟨q9 (by omega) (by omega),q9 (by omega) (by omega)⟩,_,_,rfl,rfl,?_⟩
   refine⟨_,rfl,a,_,rfl,.inl hS,_,_,rfl,rfl,_,rfl,?_⟩
   refine yw (fun d=>?_) (fun d=>?_)
   · have d':(((ns.map V.int).length:Nat):Int) > 0:=of_decide_eq_true d
     have d2:0<ns.length:=by rw [eL] at d';omega
     rw [if_pos d2] at q
     have hx:((k:Int)*7 % ((ns.map V.int).length:Nat))=((k*7 % ns.length:Nat):Int):=by rw [eL,Int.natCast_emod,Int.natCast_mul];rfl
     have hlt:k*7 % ns.length<ns.length:=Nat.mod_lt _ d2
     obtain⟨v,hv,hv2⟩:=uJ (l:=ns.map V.int) (i:=(k:Int)*7 % ((ns.map V.int).length:Nat)) (by rw [hx];omega) (by rw [hx,eL];omega)
     obtain⟨n,hn,rfl⟩:=uK hv2
     have e:ns.getD (k*7 % ns.length) 0=n:=by
       rw [hx] at hn
       rw [List.getD_eq_getElem?_getD,show ns[k*7 % ns.length]? = some n from hn]
       rfl
     rw [e] at q
     have a0:=Int.emod_nonneg n (b:=2147483647) (by decide)
     have a1:=Int.emod_lt_of_pos n (b:=2147483647) (by decide)
     refine⟨_,rfl,_,rfl,_,rfl,_,_,rfl,rfl,⟨q9 (by omega) (by omega),q9 (by decide) (by decide)⟩,_,rfl,a,_,rfl,.inl hS,_,_,rfl,rfl,(by rw [eL];omega),a,_,_,_,rfl,rfl,hS,hv,_,_,rfl,rfl,(by show (0:Int)<2147483647;decide),_,_,rfl,rfl,⟨q9 (by show (0:Int)≤n % 2147483647;omega) (by show n % 2147483647<2 ^ 63;omega),q9 (by decide) (by decide)⟩,_,_,rfl,rfl,?_⟩
     refine⟨_,rfl,_,rfl,_,_,rfl,rfl,⟨ibc ?_,ibc ?_⟩,_,_,rfl,rfl,(by show (0:Int)<2147483629;decide),q⟩
     · show ((k:Int)*48271+11+n % 2147483647*69621).natAbs<2 ^ 256
       omega
     · show ((k:Int)*48271+11+n % 2147483647*69621).natAbs<2 ^ 256
       omega
   · have d2:¬ 0<ns.length:=fun z=>d (decide_eq_true (by rw [eL];omega))
     rw [if_neg d2] at q
     refine⟨_,rfl,_,rfl,_,_,rfl,rfl,⟨ibc ?_,ibc ?_⟩,_,_,rfl,rfl,(by show (0:Int)<2147483629;decide),q⟩
     · show ((k:Int)*48271+11).natAbs<2 ^ 256
       omega
     · show ((k:Int)*48271+11).natAbs<2 ^ 256
       omega
end
def nmF (p:Int) (k:Nat):Str:=S (lC [120] (p % 4).toNat)++S [97+k % 26]++S [97+k / 26 % 26]++S (lC [121] (p / 4 % 5).toNat)
theorem K8 (l:List Nat) (p:Int) (m:Nat) (h:p.toNat≤m) (hl:l.length=1):(lC l p.toNat).length≤m:=by rw [vg,hl];omega
def RJ (K:W.Frag):Sp:=fun vs H Q _=>∃ (a:Addr) (ns:List Int) (k:Nat),vs=[.ref a,.int k]∧bQ K H a (ns.map V.int)∧k<26∧ns.length≤1000∧Ns ns∧Q (.str (nmF (dj ns 0) k)) H
section
variable {P:Program}{w:World}{K:W.Frag}{mg:Str→Option Value}{base:Heap}{A:cJ}
theorem CN (T:Txt K mg A):bz P w K mg base bW 2 A.lQ A.p6 ["_law_script","_law_k"] (RJ K):=by
 have dB:=oN (P:=P) (w:=w) (base:=base) T
 refine T.Ew.ok oM (fun vs H Q E h=>?_) (fun cdv A0 outer s H vs Q E hr h=>?_)
 · obtain⟨a,ns,k,rfl,_⟩:=h
   rfl
 obtain⟨a,ns,k,rfl,hS,hk,hl,hb,q⟩:=h
 refine⟨_,(zE (zU (i:=2) oM.nd rfl ‹0› zS)
     (zE (zU (i:=3) oM.nd rfl ‹0› (yF dB ‹hr› rfl T.fH T.fG T.fD .nil zN (zA (pv 0) (zA zI zD))))
     (zF (zO (zM jk (zM jk (zM jk (zM vh zS (zM yW (pv 3) zI)) (yX DG (pv 2) (zM yW (pv 1) zI) (fun _ _=>rfl))) (yX DG (pv 2) (zM yW (zM lq (pv 1) zI) zI) (fun _ _=>rfl))) (zM vh zS (zM yW (zM lq (pv 3) zI) zI))))))),?_⟩
 refine⟨_,rfl,a,ns,0,rfl,hS,by decide,hl,hb,?_⟩
 generalize dj ns 0=p at q
 have a0:=Int.emod_nonneg p (b:=4) (by decide)
 have a1:=Int.emod_lt_of_pos p (b:=4) (by decide)
 have b0:=Int.emod_nonneg (p / 4) (b:=5) (by decide)
 have b1:=Int.emod_lt_of_pos (p / 4) (b:=5) (by decide)
 have r1:=K8 [120] (p % 4) 4 (by omega) rfl
 have r2:=K8 [121] (p / 4 % 5) 5 (by omega) rfl
 have l1:(S (lC (cd ‹"x"›) (p % 4).toNat)).length≤4:=by rw [jl,Nf];exact r1
 have l2:(S (lC (cd ‹"y"›) (p / 4 % 5).toNat)).length≤5:=by rw [jl,Nf];exact r2
 have lx:‹"x"›.length=1:=by symm
 have ly:‹"y"›.length=1:=by symm
 have lz:("abcdefghijklmnopqrstuvwxyz":Str).length=26:=by symm
 have k0:((k:Int) % 26).toNat=k % 26:=by omega
 have k1:((k:Int) / 26 % 26).toNat=k / 26 % 26:=by omega
 have c0:=K7 ((k:Int) % 26) (by omega) (by omega)
 have c1:=K7 ((k:Int) / 26 % 26) (by omega) (by omega)
 rw [k0] at c0
 rw [k1] at c1
 have ls:∀ c:Nat,(⟨#[c]⟩:Str).length=1:=fun c=>rfl
 refine⟨_,rfl,_,_,rfl,rfl,(by show (0:Int)<4;decide),_,_,rfl,rfl,a0,(by omega),(by rw [lx];omega),(by rw [lx];omega),?_⟩
 refine⟨_,rfl,_,rfl,_,_,rfl,rfl,(by show (0:Int)<26;decide),_,_,_,rfl,rfl,(by rw [lz,sizeLine_eq];omega),c0,?_⟩
 refine⟨_,_,rfl,rfl,(by rw [sizeLine_eq];have:=ls (97+k % 26);omega),?_⟩
 refine⟨_,rfl,_,rfl,_,_,rfl,rfl,⟨by decide,by decide⟩,_,_,rfl,rfl,(by show (0:Int)<26;decide),_,_,_,rfl,rfl,(by rw [lz,sizeLine_eq];omega),c1,?_⟩
 refine⟨_,_,rfl,rfl,(by rw [sizeLine_eq,len_app];have:=ls (97+k % 26);have:=ls (97+k / 26 % 26);omega),?_⟩
 refine⟨_,rfl,_,_,rfl,rfl,⟨by decide,by decide⟩,_,_,rfl,rfl,(by show (0:Int)<5;decide),_,_,rfl,rfl,b0,(by omega),(by rw [ly];omega),(by rw [ly];omega),?_⟩
 exact⟨_,_,rfl,rfl,(by rw [sizeLine_eq,len_app,len_app];have:=ls (97+k % 26);have:=ls (97+k / 26 % 26);omega),q⟩
end
theorem xG {H:Hp}{a b:Addr}{o:HO} (h:upd H a o b=none):b≠a∧H b=none:=by
 by_cases e:b=a
 · subst e;rw [zB] at h;cases h
 · exact⟨e,by rw [zG e] at h;exact h⟩
theorem xJ {H H':Hp} (s:aD H H') {b:Addr} (h:H' b=none):H b=none:=by
 cases e:H b with
 | none=>rfl
 | some o=>rw [s b o e] at h;cases h
def Fr (M:List Addr) (H H':Hp):Prop:=∀ b o,H b=some o→b∉M→H' b=some o
theorem Fr.of {M:List Addr}{H H':Hp} (s:aD H H'):Fr M H H':=fun b o h _=>s b o h
theorem Fr.trans {M:List Addr}{H H' Ay:Hp} (a:Fr M H H') (b:Fr M H' Ay):Fr M H Ay:=fun x o h n=>b x o (a x o h n) n
theorem Fr.upd {M:List Addr}{H H':Hp} (a:Fr M H H') {m:Addr} (h:m∈M) (o:HO):Fr M H (upd H' m o):=fun x u hx n=>by
 rw [zG (fun e=>n (by rw [e];exact h))];exact a x u hx n
theorem Fr.new {M:List Addr}{H H':Hp} (a:Fr M H H') {m:Addr} (h:H' m=none) (o:HO):Fr M H (L2.upd H' m o):=fun x u hx n=>by
 have:=a x u hx n
 rw [zG (zC this h)];exact this
theorem Fr.more {M M':List Addr}{H H':Hp} (a:Fr M H H') (h:∀ m∈M,m∈M'):Fr M' H H':=fun x u hx n=>a x u hx fun e=>n (h x e)
theorem Ai {M:List Addr}{H H':Hp} (a:Fr M H H') {b:Addr} (n:b∉M) (h:H' b=none):H b=none:=by
 cases e:H b with
 | none=>rfl
 | some o=>rw [a b o e n] at h;cases h
theorem fW {x a:Addr} (h:x≠a):x∉[a]:=fun e=>h (List.mem_singleton.mp e)
abbrev RK (A:cJ) (dx:Addr) (u1 u2 u3:V):HO:=.ins A.jR dx [("name",u1),("kind",u2),("when",u3)]
abbrev oSh (A:cJ) (dx:Addr) (u1 u2:V) (q1 q2:Addr):HO:=.ins A.gW dx [("name",u1),("each",u2),("rows",.ref q1),("ways",.ref q2)]
abbrev oPa (A:cJ) (dx:Addr) (u1:V) (q1 q2:Addr):HO:=.ins A.fc dx [("name",u1),("sheets",.ref q1),("totals",.ref q2)]
def RL (K:W.Frag):Sp:=fun vs H Q _=>∃ p C dx u1,vs=[.ref p,u1]∧H p=some (.ins C dx [])∧ym K C∧aW K C "name"∧Q .non (upd H p (.ins C dx [("name",u1)]))
def RM (A:cJ):Sp:=fun vs H Q _=>∃ p dx u1 u2 u3,vs=[.ref p,u1,u2,u3]∧H p=some (.ins A.jR dx [])∧Q .non (upd H p (RK A dx u1 u2 u3))
def K9 (A:cJ) (K:W.Frag):Sp:=fun vs H Q _=>∃ p dx u1 u2 l1 l2 xs ys,vs=[.ref p,u1,u2,.ref l1,.ref l2]∧H p=some (.ins A.gW dx [])∧H l1=some (.lst xs)∧H l2=some (.lst ys) ∧
 ∀ q1 q2 H',q1≠q2→H q1=none→H q2=none→Fr [p] H H'→H' p=some (oSh A dx u1 u2 q1 q2)→H' q1=some (.lst xs)→H' q2=some (.lst ys)→Q .non H'
def La (A:cJ) (K:W.Frag):Sp:=fun vs H Q _=>∃ p dx u1 l1 l2 xs,vs=[.ref p,u1,.ref l1,.ref l2]∧H p=some (.ins A.fc dx [])∧H l1=some (.lst xs)∧H l2=some (.lst []) ∧
 ∀ q1 q2 H',Fr [p] H H'→H' p=some (oPa A dx u1 q1 q2)→H' q1=some (.lst xs)→H' q2=some (.lst [])→Q .non H'
abbrev oCk (A:cJ) (dx:Addr) (u1 u2 u3:V):HO:=.ins A.fM dx [("name",u1),("test",u2),("firm",u3)]
def Wo (A:cJ):Sp:=fun vs H Q _=>∃ p dx u1 u2 u3,vs=[.ref p,u1,u2,u3]∧H p=some (.ins A.fM dx [])∧Q .non (upd H p (oCk A dx u1 u2 u3))
def RN (K:W.Frag):Sp:=fun vs H Q _=>∃ p C dx lo hi,vs=[.ref p,lo,hi]∧H p=some (.ins C dx [])∧ym K C∧aW K C "low"∧aW K C "high"∧Q .non (upd H p (.ins C dx [("low",lo),("high",hi)]))
def RP (A:cJ):Sp:=fun vs H Q _=>∃ p dx,vs=[.ref p]∧H p=some (.ins A.cj dx [])∧Q .non (upd H p (.ins A.cj dx [("low",.int 0),("high",.int 1)]))
def Wq (A:cJ):Sp:=fun vs H Q _=>∃ p dx u1 u2 u3,vs=[.ref p,u1,u2,u3]∧H p=some (.ins A.rP dx [])∧Q .non (upd H p (.ins A.rP dx [("name",u1),("word",u2),("place",u3)]))
def Wr (A:cJ):Sp:=fun vs H Q _=>∃ p dx u1,vs=[.ref p,u1]∧H p=some (.ins A.nA dx [])∧Q .non (upd H p (.ins A.nA dx [("test",u1)]))
abbrev YN:List (Str × Bool):=[("yes",true),("no",false)]
def bv:Option Bool→V
 | none=>.non
 | some b=>.bl b
def Dp (b:Bool):Int:=if b=true then 1 else 0
def RQ:Sp:=fun vs H Q _=>∃ (p:V) (o:Option Bool),vs=[p,bv o]∧Q (.bl o.isSome) H
def RT:Sp:=fun vs H Q _=>∃ (p:V) (z:Str),vs=[p,.str z]∧Q (vp YN z) H
def Og:Sp:=fun vs H Q _=>∃ (p:V) (b:Bool),vs=[p,.bl b]∧Q (.int (if b=true then 1 else 0)) H
section
variable {P:Program}{w:World}{K:W.Frag}{mg:Str→Option Value}{base:Heap}{A:cJ}
theorem Aj (T:Txt K mg A):bz P w K mg base bW 1 A.iD A.iG ["self","low","high"] (RN K):=by
 refine T.ug.ok sV (fun vs H Q E h=>?_) (fun cdv A0 outer s H vs Q E hr h=>?_)
 · obtain⟨p,C,dx,lo,hi,rfl,_⟩:=h
   rfl
 obtain⟨p,C,dx,lo,hi,rfl,hp,cl,n1,n2,q⟩:=h
 refine⟨_,(zE (yG (pv 0) (pv 1) rfl)
     (zF (yG (pv 0) (pv 2) rfl))),?_⟩
 refine⟨_,rfl,_,rfl,p,C,dx,_,rfl,hp,cl,n1,by decide,?_⟩
 refine⟨_,rfl,_,rfl,p,C,dx,_,rfl,zB,cl,n2,(by show 1<1000;decide),?_⟩
 rw [yQ]
 exact q
theorem t7 (T:Txt K mg A):bz P w K mg base bW 1 A.jt A.ju ["self","name"] (RL K):=by
 refine T.vH.ok uz (fun vs H Q E h=>?_) (fun cdv A0 outer s H vs Q E hr h=>?_)
 · obtain⟨p,C,dx,u1,rfl,_⟩:=h
   rfl
 obtain⟨p,C,dx,u1,rfl,hp,cl,na,q⟩:=h
 refine⟨_,(zF (yG (pv 0) (pv 1) rfl)),?_⟩
 exact⟨_,rfl,_,rfl,p,_,dx,_,rfl,hp,cl,na,by decide,q⟩
theorem CP (T:Txt K mg A):bz P w K mg base bW 3 A.jw A.jx ["self","name","kind","when"] (RM A):=by
 have jH:=t7 (P:=P) (w:=w) (base:=base) T
 refine T.vI.ok uA (fun vs H Q E h=>?_) (fun cdv A0 outer s H vs Q E hr h=>?_)
 · obtain⟨p,dx,u1,u2,u3,rfl,_⟩:=h
   rfl
 obtain⟨p,dx,u1,u2,u3,rfl,hp,q⟩:=h
 refine⟨_,(zE (zR (qG T.tY jH ‹hr› rfl T.Qh T.nC zN (zA (pv 0) (zA (pv 1) zD))))
     (zE (yG (pv 0) (pv 2) rfl)
     (zF (yG (pv 0) (pv 3) rfl)))),?_⟩
 refine⟨_,rfl,_,rfl,p,_,dx,u1,rfl,hp,T.oh,T.jT,?_⟩
 refine⟨_,rfl,_,rfl,p,_,dx,_,rfl,zB,T.oh,T.tV,(by show 1<1000;decide),?_⟩
 refine⟨_,rfl,_,rfl,p,_,dx,_,rfl,zB,T.oh,T.tW,(by show 2<1000;decide),?_⟩
 rw [yQ,yQ]
 exact q
theorem xf (T:Txt K mg A):bz P w K mg base bW 1 A.gC A.gD ["self","name","each","rows","ways"] (K9 A K):=by
 refine T.rW.ok qX (fun vs H Q E h=>?_) (fun cdv A0 outer s H vs Q E hr h=>?_)
 · obtain⟨p,dx,u1,u2,l1,l2,xs,ys,rfl,_⟩:=h
   rfl
 obtain⟨p,dx,u1,u2,l1,l2,xs,ys,rfl,hp,h1,h2,q⟩:=h
 refine⟨_,(zE (yG (pv 0) (pv 1) rfl)
     (zE (yG (pv 0) (pv 2) rfl)
     (zE (yG (pv 0) (gh xN (by rfl) T.sS Bt.list (zA (pv 3) zD)) rfl)
     (zF (yG (pv 0) (gh xN (by rfl) T.sS Bt.list (zA (pv 4) zD)) rfl))))),?_⟩
 have n1:l1≠p:=yL h1 hp (by intro z;cases z)
 have n2:l2≠p:=yL h2 hp (by intro z;cases z)
 refine⟨_,rfl,_,rfl,p,_,dx,_,rfl,hp,T.dF,T.j4,by decide,?_⟩
 refine⟨_,rfl,_,rfl,p,_,dx,_,rfl,zB,T.dF,T.j5,(by show 1<1000;decide),?_⟩
 rw [yQ]
 refine⟨_,rfl,l1,xs,rfl,.inl (bQ.of (by rw [zG n1];exact h1)),fun q1 hq1=>?_⟩
 obtain⟨e1,f1⟩:=xG hq1
 refine⟨_,rfl,p,_,dx,_,rfl,(by rw [zG (Ne.symm e1)];exact zB),T.dF,T.gY,(by show 2<1000;decide),?_⟩
 refine⟨_,rfl,l2,ys,rfl,.inl (bQ.of (by rw [zG n2,zG (zC h2 f1),zG n2];exact h2)),fun q2 hq2=>?_⟩
 obtain⟨e2,g2⟩:=xG hq2
 obtain⟨e3,g3⟩:=xG g2
 obtain⟨e4,f2⟩:=xG g3
 refine⟨_,rfl,p,_,dx,_,rfl,(by rw [zG (Ne.symm e2)];exact zB),T.dF,T.pM,(by show 3<1000;decide),?_⟩
 refine q q1 q2 _ (Ne.symm e3) f1 f2 (fun b o hb hn=>?_) zB ?_ ?_
 · have nb:b≠p:=fun e=>hn (by rw [e];exact List.mem_singleton.mpr rfl)
   rw [zG nb,zG (zC hb f2),zG nb,zG (zC hb f1),zG nb];exact hb
 · rw [zG e1,zG (Ne.symm e3),zG e1];exact zB
 · rw [zG e2];exact zB
theorem xg (T:Txt K mg A):bz P w K mg base bW 1 A.gG A.gH ["self","name","sheets","totals"] (La A K):=by
 refine T.rZ.ok qY (fun vs H Q E h=>?_) (fun cdv A0 outer s H vs Q E hr h=>?_)
 · obtain⟨p,dx,u1,l1,l2,xs,rfl,_⟩:=h
   rfl
 obtain⟨p,dx,u1,l1,l2,xs,rfl,hp,h1,h2,q⟩:=h
 refine⟨_,(zE (yG (pv 0) (pv 1) rfl)
     (zE (yG (pv 0) (gh xN (by rfl) T.sS Bt.list (zA (pv 2) zD)) rfl)
     (zF (yG (pv 0) (BP (pP (jf (x:="total") (M:=["self","name","sheets","totals"]) rfl (by rfl)) (by rfl) (by symm)) rfl (yZ (pv 3)) (fun _ _ _ _=>vq) (fun _ _ _ _=>JX (by exact (yN (zA (pv 0) (zA (gh xN (by rfl) T.sS Bt.list (zA (pv 1) zD)) zD)))) (by dsimp only [cA] <;> rfl))) rfl)))),?_⟩
 have n1:l1≠p:=yL h1 hp (by intro z;cases z)
 have n2:l2≠p:=yL h2 hp (by intro z;cases z)
 refine⟨_,rfl,_,rfl,p,_,dx,_,rfl,hp,T.eY,T.wW,by decide,?_⟩
 refine⟨_,rfl,l1,xs,rfl,.inl (bQ.of (by rw [zG n1];exact h1)),fun q1 hq1=>?_⟩
 obtain⟨e1,f1⟩:=xG hq1
 refine⟨_,rfl,p,_,dx,_,rfl,(by rw [zG (Ne.symm e1)];exact zB),T.eY,T.cz,(by show 1<1000;decide),?_⟩
 generalize hG:upd (upd (upd H p (.ins A.fc dx (lu ‹"name"› u1 []))) q1 (.lst xs)) p (.ins A.fc dx (lu ‹"sheets"› (V.ref q1) (lu ‹"name"› u1 [])))=H1
 have F1:Fr [p] H H1:=by rw [← hG];exact (((Fr.of (aD.refl _)).upd (List.mem_singleton.mpr rfl) _).new hq1 _).upd (List.mem_singleton.mpr rfl) _
 have hp1:H1 p=some (.ins A.fc dx [("name",u1),("sheets",.ref q1)]):=by rw [← hG];exact zB
 have ae6:H1 q1=some (.lst xs):=by rw [← hG,zG e1];exact zB
 have hl2:H1 l2=some (.lst []):=F1 _ _ h2 (fW n2)
 refine⟨_,rfl,l2,rfl,⟨_,bQ.of hl2⟩,?_⟩
 refine pQ (xs:=[]) (Nat.zero_le _) (fun i zs H'=>H1=H'∧zs=[]) ⟨rfl,rfl⟩ (fun i zs H' hw=>by obtain⟨rfl,_⟩:=hw;exact bQ.of hl2) (fun i x zs H' hx hlen hw=>by simp at hx) (fun zs H' hw p2 hp2=>?_)
 obtain⟨rfl,rfl⟩:=hw
 have s2:=zH hp2 (.lst [])
 have np2:p2≠p:=fun e=>by rw [e,hp1] at hp2;cases hp2
 refine⟨_,rfl,p,_,dx,_,rfl,s2 _ _ hp1,T.eY,T.mK,(by show 2<1000;decide),?_⟩
 have F2:Fr [p] H1 (upd (upd H1 p2 (.lst [])) p (oPa A dx u1 q1 p2)):=(Fr.of s2).upd (List.mem_singleton.mpr rfl) _
 refine q q1 p2 _ (F1.trans F2) zB (F2 _ _ ae6 (fW e1)) ?_
 show (upd (upd H1 p2 (.lst [])) p (oPa A dx u1 q1 p2)) p2=_
 rw [zG np2];exact zB
theorem xj (T:Txt K mg A):bz P w K mg base bW 3 A.gA A.gB ["self","name","test","firm"] (Wo A):=by
 have jH:=t7 (P:=P) (w:=w) (base:=base) T
 refine T.rT.ok qW (fun vs H Q E h=>?_) (fun cdv A0 outer s H vs Q E hr h=>?_)
 · obtain⟨p,dx,u1,u2,u3,rfl,_⟩:=h
   rfl
 obtain⟨p,dx,u1,u2,u3,rfl,hp,q⟩:=h
 refine⟨_,(zE (zR (qG T.tY jH ‹hr› rfl T.Qh T.nC zN (zA (pv 0) (zA (pv 1) zD))))
     (zE (yG (pv 0) (pv 2) rfl)
     (zF (yG (pv 0) (pv 3) rfl)))),?_⟩
 refine⟨_,rfl,_,rfl,p,_,dx,u1,rfl,hp,T.fO,T.eV,?_⟩
 refine⟨_,rfl,_,rfl,p,_,dx,_,rfl,zB,T.fO,T.pK,(by show 1<1000;decide),?_⟩
 refine⟨_,rfl,_,rfl,p,_,dx,_,rfl,zB,T.fO,T.pL,(by show 2<1000;decide),?_⟩
 rw [yQ,yQ]
 exact q
theorem CQ (T:Txt K mg A):bz P w K mg base bW 3 A.gn A.gq ["self"] (RP A):=by
 have uE:=Aj (P:=P) (w:=w) (base:=base) T
 refine T.rQ.ok qU (fun vs H Q E h=>?_) (fun cdv A0 outer s H vs Q E hr h=>?_)
 · obtain⟨p,dx,rfl,_⟩:=h
   rfl
 obtain⟨p,dx,rfl,hp,q⟩:=h
 refine⟨_,(zF (zR (qG T.Ag uE ‹hr› rfl T.RB T.uh zN (zA (pv 0) (zA zI (zA zI zD)))))),?_⟩
 exact⟨_,rfl,p,_,dx,_,_,rfl,hp,T.qQ,T.Ae,T.wV,q⟩
theorem wg (T:Txt K mg A):bz P w K mg base bW 1 A.jY A.gU ["self","name","word","place"] (Wq A):=by
 refine T.wK.ok v5 (fun vs H Q E h=>?_) (fun cdv A0 outer s H vs Q E hr h=>?_)
 · obtain⟨p,dx,u1,u2,u3,rfl,_⟩:=h
   rfl
 obtain⟨p,dx,u1,u2,u3,rfl,hp,q⟩:=h
 refine⟨_,(zE (yG (pv 0) (pv 1) rfl)
     (zE (yG (pv 0) (pv 2) rfl)
     (zF (yG (pv 0) (pv 3) rfl)))),?_⟩
 refine⟨_,rfl,_,rfl,p,_,dx,_,rfl,hp,T.oA,T.mF,by decide,?_⟩
 refine⟨_,rfl,_,rfl,p,_,dx,_,rfl,zB,T.oA,T.qm,(by show 1<1000;decide),?_⟩
 refine⟨_,rfl,_,rfl,p,_,dx,_,rfl,zB,T.oA,T.tX,(by show 2<1000;decide),?_⟩
 rw [yQ,yQ]
 exact q
theorem wj (T:Txt K mg A):bz P w K mg base bW 1 A.jE A.jF ["self","test"] (Wr A):=by
 refine T.vU.ok uD (fun vs H Q E h=>?_) (fun cdv A0 outer s H vs Q E hr h=>?_)
 · obtain⟨p,dx,u1,rfl,_⟩:=h
   rfl
 obtain⟨p,dx,u1,rfl,hp,q⟩:=h
 refine⟨_,(zF (yG (pv 0) (pv 1) rfl)),?_⟩
 exact⟨_,rfl,_,rfl,p,_,dx,_,rfl,hp,T.vY,T.oE,by decide,q⟩
theorem Lb (T:Txt K mg A):bz P w K mg base bW 1 A.jn A.jo ["self","thing"] RQ:=by
 refine T.vB.ok ux (fun vs H Q E h=>?_) (fun cdv A0 outer s H vs Q E hr h=>?_)
 · obtain⟨p,o,rfl,_⟩:=h
   rfl
 obtain⟨p,o,rfl,q⟩:=h
 cases o with
 | some b=>exact⟨_,(zF (zO (yI ig (by rfl) T.cB Bt.isinstance (zA (pv 1) (zA (qu (v:=.ty "bool") rfl T.Ff Bt.bool rfl) zD))))),_,rfl,_,_,_,_,rfl,rfl,.old (.bl _),T.tU,q⟩
 | none=>exact⟨_,(zF (zO (yI ig (by rfl) T.cB Bt.isinstance (zA (pv 1) (zA (qu (v:=.ty "bool") rfl T.Ff Bt.bool rfl) zD))))),_,rfl,_,_,_,_,rfl,rfl,.old .non,T.uv,q⟩
theorem Oh (T:Txt K mg A):bz P w K mg base bW 1 A.d8 A.d9 ["self","text"] RT:=by
 refine T.o4.ok oF (fun vs H Q E h=>?_) (fun cdv A0 outer s H vs Q E hr h=>?_)
 · obtain⟨p,z,rfl,_⟩:=h
   rfl
 obtain⟨p,z,rfl,q⟩:=h
 exact⟨_,(zF (zO (Nm rfl T.sJ T.sO (pv 1) ⟨rfl,rfl,rfl,rfl⟩))),_,rfl,z,rfl,q⟩
theorem Ld (T:Txt K mg A):bz P w K mg base bW 1 A.jq A.jr ["self","answer"] Og:=by
 refine T.vD.ok uy (fun vs H Q E h=>?_) (fun cdv A0 outer s H vs Q E hr h=>?_)
 · obtain⟨p,b,rfl,_⟩:=h
   rfl
 obtain⟨p,b,rfl,q⟩:=h
 refine⟨_,(zF (zO (qw (yJ (pv 1)) zI zI))),?_⟩
 cases b with
 | true=>exact⟨_,rfl,_,rfl,bU q⟩
 | false=>exact⟨_,rfl,_,rfl,bN q⟩
def JF (T:Txt K mg A):cM P w K mg base bW 4 A.cj "fits":=⟨_,_,_,_,[],[],T.qQ,T.wR,(Lb T).mono (by decide),T.vC,.nil⟩
def JAn (T:Txt K mg A):cM P w K mg base bW 4 A.cj "answer_of":=⟨_,_,_,_,[],[],T.qQ,T.ql,(Oh T).mono (by decide),T.o5,.nil⟩
def JK (T:Txt K mg A):cM P w K mg base bW 4 A.cj "rank":=⟨_,_,_,_,[],[],T.qQ,T.wU,(Ld T).mono (by decide),T.vG,.nil⟩
end
inductive Sy where
 | yes (n:Str) | no (n:Str) | nt (n:Str)
def Sy.n:Sy→Str
 | .yes n=>n
 | .no n=>n
 | .nt n=>n
abbrev Sg:=Option Sy
structure Rw where
 Ak:Bool
 nm:Str
 sg:Sg
 firm:Bool
abbrev Wy:=Nat × Sg
abbrev kW:=Str × List Rw × List Wy
def Pl:HO→Prop
 | .qp _=>False
 | .own _=>False
 | .ji _ _=>False
 | .ins _ _ []=>False
 | _=>True
def Kq (H H':Hp):Prop:=∀ b o,H b=some o→Pl o→H' b=some o
theorem Kq.of {H H':Hp} (s:aD H H'):Kq H H':=fun b o h _=>s b o h
theorem Kq.trans {H H1 H2:Hp} (a:Kq H H1) (b:Kq H1 H2):Kq H H2:=fun x o h p=>b x o (a x o h p) p
def pl (f:Bool) (i:Int):V:=if f=true then .int i else .non
abbrev Mm (A:cJ) (dx:Addr) (n w:Str) (p:V):HO:=.ins A.rP dx [("name",.str n),("word",.str w),("place",p)]
abbrev Ut (A:cJ) (dx:Addr) (b:Addr):HO:=.ins A.nA dx [("test",.ref b)]
abbrev oY (A:cJ) (dk:Addr):HO:=.ins A.cj dk [("low",.int 0),("high",.int 1)]
def Fj (A:cJ) (H:Hp) (f:Bool) (x:V):Sy→Prop
 | .yes n=>∃ a dx,x=.ref a∧H a=some (Mm A dx n ‹"yes"› (pl f 1))
 | .no n=>∃ a dx,x=.ref a∧H a=some (Mm A dx n ‹"no"› (pl f 0))
 | .nt n=>∃ a dx b db,x=.ref a∧H a=some (Ut A dx b)∧H b=some (Mm A db n ‹"yes"› (pl f 1))
def Le (A:cJ) (H:Hp) (x:V):Sg→Prop
 | none=>x=.non
 | some s=>Fj A H false x s
theorem Fj.kq {A:cJ}{H H':Hp} (k:Kq H H') {f:Bool}{x:V}{s:Sy} (h:Fj A H f x s):Fj A H' f x s:=by
 cases s with
 | yes n=>obtain⟨a,dx,e,h⟩:=h;exact⟨a,dx,e,k _ _ h trivial⟩
 | no n=>obtain⟨a,dx,e,h⟩:=h;exact⟨a,dx,e,k _ _ h trivial⟩
 | nt n=>obtain⟨a,dx,b,db,e,h,h'⟩:=h;exact⟨a,dx,b,db,e,k _ _ h trivial,k _ _ h' trivial⟩
theorem Le.kq {A:cJ}{H H':Hp} (k:Kq H H') {x:V}{s:Sg} (h:Le A H x s):Le A H' x s:=by
 cases s with
 | none=>exact h
 | some s=>exact Fj.kq k h
def Fl (A:cJ) (H:Hp) (x:V) (r:Rw):Prop:=∃ a dx y,x=.ref a∧Le A H y r.sg∧((r.Ak=true∧H a=some (oCk A dx (.str r.nm) y (.bl r.firm)))∨(r.Ak=false∧∃ k dk,H a=some (RK A dx (.str r.nm) (.ref k) y)∧H k=some (oY A dk)))
def Il (A:cJ) (nms:List Str) (H:Hp) (x:V) (v:Wy):Prop:=∃ a y t,x=.ref a∧H a=some (.tup [.str t,y])∧nms[v.1]? = some t∧Le A H y v.2
def Oi (A:cJ) (nms:List Str) (H:Hp) (x:V) (s:kW):Prop:=∃ a dx q1 q2 xs ys,x=.ref a∧H a=some (oSh A dx (.str s.1) .non q1 q2)∧H q1=some (.lst xs)∧H q2=some (.lst ys)∧Paired (Fl A H) xs s.2.1∧Paired (Il A nms H) ys s.2.2
def fJ (S:List kW):List Str:=S.map (·.1)++[‹"end"›]
def Lg (A:cJ) (H:Hp) (a:Addr) (S:List kW):Prop:=∃ dx u q1 q2 xs,H a=some (oPa A dx u q1 q2)∧H q1=some (.lst xs)∧H q2=some (.lst [])∧Paired (Oi A (fJ S) H) xs S
theorem Fl.kq {A:cJ}{H H':Hp} (f:Kq H H') {x:V}{r:Rw} (h:Fl A H x r):Fl A H' x r:=by
 obtain⟨a,dx,y,e,h1,h2⟩:=h
 refine⟨a,dx,y,e,h1.kq f,?_⟩
 rcases h2 with ⟨c,h2⟩ | ⟨c,k,dk,h2,h3⟩
 · exact .inl ⟨c,f _ _ h2 trivial⟩
 · exact .inr ⟨c,k,dk,f _ _ h2 trivial,f _ _ h3 trivial⟩
theorem Il.kq {A:cJ}{nms:List Str}{H H':Hp} (f:Kq H H') {x:V}{r:Wy} (h:Il A nms H x r):Il A nms H' x r:=by
 obtain⟨a,y,t,e,h1,h2,h3⟩:=h
 exact⟨a,y,t,e,f _ _ h1 trivial,h2,h3.kq f⟩
theorem Oi.kq {A:cJ}{nms:List Str}{H H':Hp} (f:Kq H H') {x:V}{s:kW} (h:Oi A nms H x s):Oi A nms H' x s:=by
 obtain⟨a,dx,q1,q2,xs,ys,e,h1,h2,h3,h4,h5⟩:=h
 exact⟨a,dx,q1,q2,xs,ys,e,f _ _ h1 trivial,f _ _ h2 trivial,f _ _ h3 trivial,zJ h4 fun _ _=>Fl.kq f,zJ h5 fun _ _=>Il.kq f⟩
theorem Lg.kq {A:cJ}{H H':Hp} (f:Kq H H') {a:Addr}{S:List kW} (h:Lg A H a S):Lg A H' a S:=by
 obtain⟨dx,u,q1,q2,xs,h1,h2,h3,h4⟩:=h
 exact⟨dx,u,q1,q2,xs,f _ _ h1 trivial,f _ _ h2 trivial,f _ _ h3 trivial,zJ h4 fun _ _=>Oi.kq f⟩
def fU (S:List kW) (z:Str):Prop:=∃ s∈S,∃ r∈s.2.1,r.Ak=false∧r.nm=z
structure GS (S:List kW):Prop where
 len:S.length≤5
 rows:∀ s∈S,s.2.1.length≤4
 ways:∀ s∈S,s.2.2.length≤4
 sgR:∀ s∈S,∀ r∈s.2.1,∀ y,r.sg=some y→fU S y.n
 sgW:∀ s∈S,∀ v∈s.2.2,∀ y,v.2=some y→fU S y.n
 Ws:∀ (i:Nat) (s:kW),S[i]? = some s→∀ v∈s.2.2,i<v.1∧v.1≤S.length
 nd:(fJ S).Nodup
def Lh (A:cJ) (H:Hp) (kvs:List (Key × V)) (S:List kW):Prop:=∀ z,fU S z→∃ k dk,bR kvs (.inr z)=some (.ref k)∧H k=some (oY A dk)
def EdR (kvs:List (Key × V)) (S:List kW):Prop:=∀ z,fU S z→bR kvs (.inr z)=some .non
theorem Lh.kq {A:cJ}{H H':Hp} (f:Kq H H') {kvs:List (Key × V)}{S:List kW} (h:Lh A H kvs S):Lh A H' kvs S:=fun z hz=>by
 obtain⟨k,dk,h1,h2⟩:=h z hz
 exact⟨k,dk,h1,f _ _ h2 trivial⟩
def Oj (A:cJ):Sp:=fun vs H Q _=>∃ a S,vs=[.ref a]∧Lg A H a S∧GS S∧∀ d kvs H',H d=none→aD H H'→H' d=some (.dK kvs)→Lh A H kvs S→Q (.ref d) H'
def Li (A:cJ):Sp:=fun vs H Q _=>∃ a S,vs=[.ref a]∧Lg A H a S∧GS S∧∀ d kvs H',H d=none→aD H H'→H' d=some (.dK kvs)→EdR kvs S→Q (.ref d) H'
def kO (R:Str→Prop) (S:List kW) (i:Nat) (rs:List Rw) (j:Nat):Prop:=(∀ (i':Nat) (s:kW),i'<i→S[i']? = some s→∀ r∈s.2.1,r.Ak=false→R r.nm)∧∀ j' r,j'<j→rs[j']? = some r→r.Ak=false→R r.nm
theorem kO.zero {R:Str→Prop}{S:List kW}{rs:List Rw}:kO R S 0 rs 0:=⟨fun _ _ h=>absurd h (Nat.not_lt_zero _),fun _ _ h=>absurd h (Nat.not_lt_zero _)⟩
theorem kO.next {R:Str→Prop}{S:List kW}{i:Nat}{s:kW}{rs':List Rw} (hs:S[i]? = some s) (h:kO R S i s.2.1 s.2.1.length):kO R S (i+1) rs' 0:=⟨fun i' s' hi e r hr c=>by
 by_cases z:i'=i
 · subst z;rw [hs] at e;cases e
   obtain⟨j,hj⟩:=List.mem_iff_getElem?.mp hr
   exact h.2 j r (List.getElem?_eq_some_iff.mp hj).1 hj c
 · exact h.1 i' s' (by omega) e r hr c,fun _ _ h=>absurd h (Nat.not_lt_zero _)⟩
theorem kO.first {R:Str→Prop}{S:List kW}{i:Nat}{rs rs':List Rw} (h:kO R S i rs 0):kO R S i rs' 0:=⟨h.1,fun _ _ h=>absurd h (Nat.not_lt_zero _)⟩
theorem kO.ask {R R':Str→Prop}{S:List kW}{i j:Nat}{rs:List Rw}{r:Rw} (hr:rs[j]? = some r) (h:kO R S i rs j) (k:∀ z,R z→R' z) (kr:R' r.nm):kO R' S i rs (j+1):=⟨fun i' s hi e r hr c=>k _ (h.1 i' s hi e r hr c),fun j' r' hj e c=>by
 by_cases z:j'=j
 · subst z;rw [hr] at e;cases e;exact kr
 · exact k _ (h.2 j' r' (by omega) e c)⟩
theorem kO.check {R:Str→Prop}{S:List kW}{i j:Nat}{rs:List Rw}{r:Rw} (hr:rs[j]? = some r) (c:r.Ak=true) (h:kO R S i rs j):kO R S i rs (j+1):=⟨h.1,fun j' r' hj e c'=>by
 by_cases z:j'=j
 · subst z;rw [hr] at e;cases e;rw [c] at c';cases c'
 · exact h.2 j' r' (by omega) e c'⟩
theorem kO.all {R:Str→Prop}{S:List kW}{rs:List Rw} (h:kO R S S.length rs 0):∀ z,fU S z→R z:=fun z hz=>by
 obtain⟨s,hs,r,hr,c,rfl⟩:=hz
 obtain⟨i,hi⟩:=List.mem_iff_getElem?.mp hs
 exact h.1 i s (List.getElem?_eq_some_iff.mp hi).1 hi r hr c
section
variable {P:Program}{w:World}{K:W.Frag}{mg:Str→Option Value}{base:Heap}{A:cJ}
theorem CT (T:Txt K mg A):bz P w K mg base bW 1 A.lF A.pW ["paper"] (Oj A):=by
 refine T.Eh.ok jU (fun vs H Q E h=>?_) (fun cdv A0 outer s H vs Q E hr h=>?_)
 · obtain⟨a,S,rfl,_⟩:=h
   rfl
 obtain⟨a,S,rfl,hP,hG,q⟩:=h
 refine⟨_,(zE (zU (i:=1) jU.nd rfl ‹0› km)
     (zE (yP PassesOwn.never rfl (yZ (zK (pv 0) rfl)) (zQ (i:=2) jU.nd rfl ‹0›) (zF (yP PassesOwn.never rfl (yZ (zK (pv 2) rfl)) (zQ (i:=3) jU.nd rfl ‹0›) (zF (yH (yJ (yI ig (by rfl) T.cB Bt.isinstance (zA (pv 3) (zA (Bs rfl T.KN) zD)))) (zF (qz (xK hr) (pv 1) (zK (pv 3) rfl) (zK (pv 3) rfl) rfl)) zV)))))
     (zF (zO (pv 1))))),?_⟩
 intro d hd
 obtain⟨dx,u,q1,q2,xs,p1,p2,p3,p4⟩:=hP
 have s0:=zH hd (.dK [])
 refine⟨_,rfl,a,_,dx,_,_,rfl,s0 _ _ p1,T.eY,T.cz,(by rw [lk2 (by symm)]),q1,rfl,⟨xs,bQ.of (s0 _ _ p2)⟩,?_⟩
 have lens:=zL p4
 have hlen:=hG.len
 refine yY (xs:=xs) (fun i σ H'=>∃ kvs u v,σ=[some (.ref a),some (.ref d),u,v]∧Fr [d] (upd H d (.dK [])) H'∧H' d=some (.dK kvs)∧kvs.length≤4*i∧kO (fun z=>∃ k dk,bR kvs (.inr z)=some (.ref k)∧H k=some (oY A dk)) S i [] 0) ⟨[],_,_,rfl,Fr.of (aD.refl _),zB,Nat.zero_le _,.zero⟩ (fun i σ H' hi hw=>?_) (fun i x σ H' hx hw=>?_) (fun σ H' hw=>?_)
 · obtain⟨kvs,u,v,rfl,F,_⟩:=hw
   exact bQ.of (F _ _ (s0 _ _ p2) (fW (zC p2 hd)))
 · obtain⟨kvs,u,v,rfl,F,hd',hl,hK⟩:=hw
   obtain⟨sh,hsh,hS⟩:=yC p4 hx
   obtain⟨sa,Im,r1,r2,rs,ws,rfl,a1,a2,a3,a4,a5⟩:=hS
   have nn:∀ {b:Addr}{o:HO},H b=some o→H' b=some o:=fun {b o} hb=>F _ _ (s0 _ _ hb) (fW (zC hb hd))
   have Io:=hG.rows sh (List.mem_of_getElem? hsh)
   have hi5:i<5:=by have:=(List.getElem?_eq_some_iff.mp hsh).1;omega
   have lr:=zL a4
   refine⟨_,rfl,sa,_,Im,_,_,rfl,nn a1,T.dF,T.gY,rfl,r1,rfl,⟨rs,bQ.of (nn a2)⟩,?_⟩
   refine yY (xs:=rs) (fun j σ H'=>∃ kvs v,σ=[some (.ref a),some (.ref d),some (.ref sa),v]∧Fr [d] (upd H d (.dK [])) H'∧H' d=some (.dK kvs)∧kvs.length≤4*i+j∧kO (fun z=>∃ k dk,bR kvs (.inr z)=some (.ref k)∧H k=some (oY A dk)) S i sh.2.1 j) ⟨kvs,_,rfl,F,hd',hl,hK.first⟩ (fun j σ H2 hj hw=>?_) (fun j x σ H2 hx2 hw=>?_) (fun σ H2 hw=>?_)
   · obtain⟨kvs,v,rfl,F,_⟩:=hw
     exact bQ.of (F _ _ (s0 _ _ a2) (fW (zC a2 hd)))
   · obtain⟨kvs,v,rfl,F,hd',hl,hK⟩:=hw
     obtain⟨r,hr,hR⟩:=yC a4 hx2
     have hj4:j<4:=by have:=(List.getElem?_eq_some_iff.mp hr).1;omega
     have nn:∀ {b:Addr}{o:HO},H b=some o→H2 b=some o:=fun {b o} hb=>F _ _ (s0 _ _ hb) (fW (zC hb hd))
     obtain⟨ra,HW,y,rfl,_,hR⟩:=hR
     rcases hR with ⟨c,b1⟩ | ⟨c,k,dk,b1,b2⟩
     · refine⟨_,rfl,_,_,_,_,rfl,rfl,.old (T.vW H2 ra HW _ (nn b1)),T.my,_,rfl,bN ?_⟩
       exact⟨kvs,_,rfl,F,hd',by omega,hK.check hr c⟩
     · refine⟨_,rfl,_,_,_,_,rfl,rfl,.old (T.Fi H2 ra HW _ (nn b1)),T.qj,_,rfl,bU ?_⟩
       refine⟨_,rfl,ra,_,HW,_,_,rfl,nn b1,T.oh,T.tV,rfl,_,rfl,_,rfl,ra,_,HW,_,_,rfl,nn b1,T.oh,T.jT,rfl,d,_,rfl,uX.k (k:=.inr r.nm) hd' (zP (m:=1000) (by omega)),?_⟩
       have hp:=xC kvs (.inr r.nm) (.ref k)
       refine⟨_,_,rfl,F.upd (List.mem_singleton.mpr rfl) _,zB,by omega,hK.ask hr (fun z hz=>?_) ?_⟩
       · rw [xB]
         by_cases e:(Sum.inr z:Key)=.inr r.nm
         · rw [if_pos e];exact⟨k,dk,rfl,b2⟩
         · rw [if_neg e];exact hz
       · rw [xB,if_pos rfl];exact⟨k,dk,rfl,b2⟩
   · obtain⟨kvs,v,rfl,F,hd',hl,hK⟩:=hw
     rw [lr] at hl hK
     exact⟨kvs,_,_,rfl,F,hd',by omega,hK.next hsh⟩
 · obtain⟨kvs,u,v,rfl,F,hd',hl,hK⟩:=hw
   rw [lens] at hK
   exact⟨_,rfl,q d kvs H' hd (fun b o hb=>F _ _ (s0 _ _ hb) (fW (zC hb hd))) hd' hK.all⟩
theorem Al (T:Txt K mg A):bz P w K mg base bW 1 A.jN A.m7 ["paper"] (Li A):=by
 refine T.Ce.ok jd (fun vs H Q E h=>?_) (fun cdv A0 outer s H vs Q E hr h=>?_)
 · obtain⟨a,S,rfl,_⟩:=h
   rfl
 obtain⟨a,S,rfl,hP,hG,q⟩:=h
 refine⟨_,(zE (zU (i:=1) jd.nd rfl ‹0› km)
     (zE (yP PassesOwn.never rfl (yZ (zK (pv 0) rfl)) (zQ (i:=2) jd.nd rfl ‹0›) (zF (yP PassesOwn.never rfl (yZ (zK (pv 2) rfl)) (zQ (i:=3) jd.nd rfl ‹0›) (zF (yH (yJ (yI ig (by rfl) T.cB Bt.isinstance (zA (pv 3) (zA (Bs rfl T.KN) zD)))) (zF (qz (xK hr) (pv 1) (zK (pv 3) rfl) (zK (pv 2) rfl) rfl)) zV)))))
     (zF (zO (pv 1))))),?_⟩
 intro d hd
 obtain⟨dx,u,q1,q2,xs,p1,p2,p3,p4⟩:=hP
 have s0:=zH hd (.dK [])
 refine⟨_,rfl,a,_,dx,_,_,rfl,s0 _ _ p1,T.eY,T.cz,(by rw [lk2 (by symm)]),q1,rfl,⟨xs,bQ.of (s0 _ _ p2)⟩,?_⟩
 have lens:=zL p4
 have hlen:=hG.len
 refine yY (xs:=xs) (fun i σ H'=>∃ kvs u v,σ=[some (.ref a),some (.ref d),u,v]∧Fr [d] (upd H d (.dK [])) H'∧H' d=some (.dK kvs)∧kvs.length≤4*i∧kO (fun z=>bR kvs (.inr z)=some .non) S i [] 0) ⟨[],_,_,rfl,Fr.of (aD.refl _),zB,Nat.zero_le _,.zero⟩ (fun i σ H' hi hw=>?_) (fun i x σ H' hx hw=>?_) (fun σ H' hw=>?_)
 · obtain⟨kvs,u,v,rfl,F,_⟩:=hw
   exact bQ.of (F _ _ (s0 _ _ p2) (fW (zC p2 hd)))
 · obtain⟨kvs,u,v,rfl,F,hd',hl,hK⟩:=hw
   obtain⟨sh,hsh,hS⟩:=yC p4 hx
   obtain⟨sa,Im,r1,r2,rs,ws,rfl,a1,a2,a3,a4,a5⟩:=hS
   have nn:∀ {b:Addr}{o:HO},H b=some o→H' b=some o:=fun {b o} hb=>F _ _ (s0 _ _ hb) (fW (zC hb hd))
   have Io:=hG.rows sh (List.mem_of_getElem? hsh)
   have hi5:i<5:=by have:=(List.getElem?_eq_some_iff.mp hsh).1;omega
   have lr:=zL a4
   refine⟨_,rfl,sa,_,Im,_,_,rfl,nn a1,T.dF,T.gY,rfl,r1,rfl,⟨rs,bQ.of (nn a2)⟩,?_⟩
   refine yY (xs:=rs) (fun j σ H'=>∃ kvs v,σ=[some (.ref a),some (.ref d),some (.ref sa),v]∧Fr [d] (upd H d (.dK [])) H'∧H' d=some (.dK kvs)∧kvs.length≤4*i+j∧kO (fun z=>bR kvs (.inr z)=some .non) S i sh.2.1 j) ⟨kvs,_,rfl,F,hd',hl,hK.first⟩ (fun j σ H2 hj hw=>?_) (fun j x σ H2 hx2 hw=>?_) (fun σ H2 hw=>?_)
   · obtain⟨kvs,v,rfl,F,_⟩:=hw
     exact bQ.of (F _ _ (s0 _ _ a2) (fW (zC a2 hd)))
   · obtain⟨kvs,v,rfl,F,hd',hl,hK⟩:=hw
     obtain⟨r,hr,hR⟩:=yC a4 hx2
     have hj4:j<4:=by have:=(List.getElem?_eq_some_iff.mp hr).1;omega
     have nn:∀ {b:Addr}{o:HO},H b=some o→H2 b=some o:=fun {b o} hb=>F _ _ (s0 _ _ hb) (fW (zC hb hd))
     obtain⟨ra,HW,y,rfl,_,hR⟩:=hR
     rcases hR with ⟨c,b1⟩ | ⟨c,k,dk,b1,b2⟩
     · refine⟨_,rfl,_,_,_,_,rfl,rfl,.old (T.vW H2 ra HW _ (nn b1)),T.my,_,rfl,bN ?_⟩
       exact⟨kvs,_,rfl,F,hd',by omega,hK.check hr c⟩
     · refine⟨_,rfl,_,_,_,_,rfl,rfl,.old (T.Fi H2 ra HW _ (nn b1)),T.qj,_,rfl,bU ?_⟩
       refine⟨_,rfl,sa,_,Im,_,_,rfl,nn a1,T.dF,T.j5,rfl,_,rfl,_,rfl,ra,_,HW,_,_,rfl,nn b1,T.oh,T.jT,rfl,d,_,rfl,uX.k (k:=.inr r.nm) hd' (zP (m:=1000) (by omega)),?_⟩
       have hp:=xC kvs (.inr r.nm) .non
       refine⟨_,_,rfl,F.upd (List.mem_singleton.mpr rfl) _,zB,by omega,hK.ask hr (fun z hz=>?_) ?_⟩
       · rw [xB]
         by_cases e:(Sum.inr z:Key)=.inr r.nm
         · rw [if_pos e]
         · rw [if_neg e];exact hz
       · rw [xB,if_pos rfl]
   · obtain⟨kvs,v,rfl,F,hd',hl,hK⟩:=hw
     rw [lr] at hl hK
     exact⟨kvs,_,_,rfl,F,hd',by omega,hK.next hsh⟩
 · obtain⟨kvs,u,v,rfl,F,hd',hl,hK⟩:=hw
   rw [lens] at hK
   exact⟨_,rfl,q d kvs H' hd (fun b o hb=>F _ _ (s0 _ _ hb) (fW (zC hb hd))) hd' hK.all⟩
def Wt (A:cJ):Sp:=fun vs H Q _=>∃ a S,vs=[.ref a]∧Lg A H a S∧∀ d H',H d=none→aD H H'→H' d=some (.dK [])→Q (.ref d) H'
theorem uF (T:Txt K mg A):bz P w K mg base bW 1 A.fL A.jy ["paper"] (Wt A):=by
 refine T.vK.ok uB (fun vs H Q E h=>?_) (fun cdv A0 outer s H vs Q E hr h=>?_)
 · obtain⟨a,sh,rfl,_⟩:=h
   rfl
 obtain⟨a,sh,rfl,hP,q⟩:=h
 refine⟨_,(zF (zO (gh (wJ rfl) (by rfl) T.KJ Bt.dict (zA (BP (pP (jf (x:="name") (M:=["paper"]) rfl (by rfl)) (by rfl) (by symm)) rfl (yZ (zK (pv 0) rfl)) (fun _ _ _ _=>vq) (fun _ _ _ _=>(yN (zA (pv 0) (zA Wf zD))))) zD)))),?_⟩
 obtain⟨dx,u,q1,q2,xs,p1,p2,p3,p4⟩:=hP
 refine⟨_,rfl,a,_,dx,_,_,rfl,p1,T.eY,T.mK,rfl,q2,rfl,⟨[],bQ.of p3⟩,?_⟩
 refine pQ (xs:=[]) (Nat.zero_le _) (fun i zs H'=>H=H'∧zs=[]) ⟨rfl,rfl⟩ (fun i zs H' hw=>by obtain⟨rfl,_⟩:=hw;exact bQ.of p3) (fun i x zs H' hx hlen hw=>by simp at hx) (fun zs H' hw p2' hp2=>?_)
 obtain⟨rfl,rfl⟩:=hw
 refine⟨p2',rfl,zB,fun d hd=>?_⟩
 exact q d _ (xG hd).2 ((zH hp2 _).trans (zH hd _)) zB
end
theorem Uu {a b:Str}{A B:Prop} (h:a≠b) (k:B):if (decide (V.str a=V.str b))=true then A else B:=by
 rw [decide_eq_false (fun e=>h (V.str.inj e))]
 exact bN k
theorem eqS {a b:Str}{A B:Prop} (h:a=b) (k:A):if (decide (V.str a=V.str b))=true then A else B:=by
 rw [decide_eq_true (by rw [h])]
 exact bU k
def rv:Option Int→V
 | none=>.non
 | some i=>.int i
abbrev Bk:=Str→Option Bool
def Rk (bk:Bk) (l:List Str) (z:Str):Option Int:=if z∈l then (bk z).map Dp else none
def evS (R:Str→Option Int):Sy→Bool
 | .yes n=>decide (R n=some 1)
 | .no n=>decide (R n=some 0)
 | .nt n=>!decide (R n=some 1)
def hold (bk:Bk) (l:List Str):Sg→Bool
 | none=>true
 | some s=>evS (Rk bk l) s
def Wu (b:Bool):Str:=if b=true then ‹"yes"› else ‹"no"›
structure GA where
 dx:Addr
 pa:Addr
 kd:Addr
 ed:Addr
 tg:Addr
 aq:Addr
 lg:Addr
 db:Addr
 bk:Addr
abbrev gF (c:GA) (ov:Bool):List (Str × V):=[("paper",.ref c.pa),("alone",.str ‹""›),("kinds",.ref c.kd),("eaches",.ref c.ed),("together",.ref c.tg),("asked",.ref c.aq),("log",.ref c.lg),("doubles",.ref c.db),("over",.bl ov),("book",.ref c.bk)]
abbrev RV (A:cJ) (c:GA) (ov:Bool):HO:=.ins A.aj c.dx (gF c ov)
def RW (H:Hp) (kvs:List (Key × V)) (bk:Bk) (l:List Str):Prop:=kvs.length≤l.length∧(∀ z∈l,∃ d b,bk z=some b∧bR kvs (.inr z)=some (.ref d)∧H d=some (.dK [(.inr ‹""›,.int (Dp b))]))∧∀ z,z∉l→bR kvs (.inr z)=none
theorem RW.kq {H H':Hp} (f:Kq H H') {kvs:List (Key × V)}{bk:Bk}{l:List Str} (h:RW H kvs bk l):RW H' kvs bk l:=⟨h.1,fun z hz=>by
 obtain⟨d,b,h1,h2,h3⟩:=h.2.1 z hz
 exact⟨d,b,h1,h2,f _ _ h3 trivial⟩,h.2.2⟩
structure Ol (A:cJ) (H:Hp) (g:Addr) (c:GA) (ov:Bool) (S:List kW) (bk:Bk) (l:List Str):Prop where
 go:H g=some (RV A c ov)
 tg:H c.tg=some (.dK [])
 ed:∃ kvs,H c.ed=some (.dK kvs)∧EdR kvs S
 aq:∃ kvs,H c.aq=some (.dK kvs)∧RW H kvs bk l
theorem Ol.kq {A:cJ}{H H':Hp} (f:Kq H H') {g:Addr}{c:GA}{ov:Bool}{S:List kW}{bk:Bk}{l:List Str} (h:Ol A H g c ov S bk l):Ol A H' g c ov S bk l:=by
 obtain⟨h1,h2,⟨k,h3,h4⟩,⟨k',h5,h6⟩⟩:=h
 exact⟨f _ _ h1 trivial,f _ _ h2 trivial,⟨k,f _ _ h3 trivial,h4⟩,⟨k',f _ _ h5 trivial,h6.kq f⟩⟩
def Om (s:Stmt):Expr:=match ak s with
 | [.Return (some (.BoolOp _ [_,.Call _ [e] _ _] _)) _]=>e
 | _=>.Name "" ⟨0,0,0,0⟩
def ae9 (e:Expr):Arguments:=match e with
 | .Lambda a _ _ _=>a
 | _=>{ posonlyargs:=[],args:=[],vararg:=none,kwonlyargs:=[],kw_defaults:=[],kwarg:=none,defaults:=[] }
def afa (e:Expr):Expr:=match e with
 | .Lambda _ b _ _=>b
 | _=>.Name "" ⟨0,0,0,0⟩
def afb (e:Expr):Scope:=match e with
 | .Lambda _ _ s _=>s
 | _=>{ kind:=.function,names:=[],isGenerator:=false,isCoroutine:=false }
def lamP (e:Expr):Pos:=match e with
 | .Lambda _ _ _ p=>p
 | _=>⟨0,0,0,0⟩
def DL:iC:={ qual:=‹"Straight.is_so"› ++ ".<locals>." ++ "<lambda>",params:=ae9 (Om aB),body:=afa (Om aB),scope:=afb (Om aB),x:="name",ys:=["thing","self"] }
abbrev Lj:Pos:=lamP (Om aB)
theorem Lk:DL.Ok:=⟨rfl,rfl,rfl,rfl,by symm,fun _ _ _ _ _=>rfl⟩
def Wv (P:Program) (w:World) (K:W.Frag) (mg:Str→Option Value) (base:Heap) (k:Nat):TE:=fun σ H Q=>Iz 2 σ H fun x H1=>∃ (a C dx:Addr) (fs:List (Str × V)) (M:cM P w K mg base bW k C "rank_of"),x=.ref a∧H1 a=some (.ins C dx fs)∧fs.lookup ‹"rank_of"› = none ∧
 Jj (Iz 0) (Jj (Iz 1) MJ) σ H1 fun vs H2=>M.sp (x::(vs++M.pG)) H2 Q E0
theorem Ln {P:Program}{w:World}{K:W.Frag}{mg:Str→Option Value}{base:Heap}{p:Addr}{cs:List (Str × Addr)}{cd:Value}{A:Around}{outer:List Env}{s:Shared}{H:Hp}{E:XK} (hr:dq 4 (A.deeper (W.envX DL.qual DL.scope s.heap.objs.size p cd cs))) :
   PE (vy bW P w K mg base DL p cs cd A outer s H E) DL.body (Wv P w K mg base 4):=by
 show PE _ (.Call (.Attribute (.Name "self" _) "rank_of" _) [.Name "name" _,.Name "thing" _] [] _) _
 exact zW (CX:=bW) (k:=4) hr zN (pv 2) (zA (pv 0) (zA (pv 1) zD))
theorem Ww {D:iC}{H:Hp}{p:Addr}{cs:List (Str × Addr)}{ws:List V} (L:yc D H p cs ws):Kq H (dels H (cs.map (·.2))):=fun b o h p=>by
 rw [xD]
 · exact h
 · intro hb
   obtain⟨q,hq,rfl⟩:=List.mem_map.mp hb
   obtain⟨v,_,ob,f⟩:=m6 L.cells q hq
   rw [h] at f;cases f;exact p
def RX (A:cJ) (H:Hp) (p:Addr) (S:List kW) (bk:Bk) (l:List Str):Prop:=∃ cs g c ov,yc DL H p cs [.str ‹""›,.ref g]∧Ol A H g c ov S bk l
def Wx (A:cJ):Sp:=fun vs H Q _=>∃ g c ov S bk l z,vs=[.ref g,.str z,.str ‹""›]∧Ol A H g c ov S bk l∧fU S z∧Q (.str ‹""›) H
def Wz (A:cJ):Sp:=fun vs H Q _=>∃ g c ov S bk l z,vs=[.ref g,.str z,.str ‹""›]∧Ol A H g c ov S bk l∧fU S z∧∀ H',aD H H'→Q (rv (Rk bk l z)) H'
def RZ:Sp:=fun vs H Q _=>∃ r m,vs=[rv r,.str ‹"="›,.int m]∧Q (.bl (decide (r=some m))) H
def WD (A:cJ):Sp:=fun vs H Q _=>∃ a dx n b p S bk l,vs=[.ref a,.ref p]∧H a=some (Mm A dx n (Wu b) (.int (Dp b)))∧RX A H p S bk l∧fU S n∧∀ H',aD H H'→Q (.bl (decide (Rk bk l n=some (Dp b)))) H'
def WK (A:cJ):Sp:=fun vs H Q _=>∃ a dx b db n p S bk l,vs=[.ref a,.ref p]∧H a=some (Ut A dx b)∧H b=some (Mm A db n ‹"yes"› (.int 1))∧RX A H p S bk l∧fU S n∧∀ H',aD H H'→Q (.bl (!decide (Rk bk l n=some 1))) H'
section
variable {P:Program}{w:World}{K:W.Frag}{mg:Str→Option Value}{base:Heap}{A:cJ}
theorem R3 (T:Txt K mg A):bz P w K mg base bW 1 A.eE A.eF ["self","question","thing"] (Wx A):=by
 refine T.o6.ok oG (fun vs H Q E h=>?_) (fun cdv A0 outer s H vs Q E hr h=>?_)
 · obtain⟨g,c,ov,S,bk,l,z,rfl,_⟩:=h
   rfl
 obtain⟨g,c,ov,S,bk,l,z,rfl,hR,hz,q⟩:=h
 refine⟨_,(zF (zO (qw (zZ rF (lA (xK hr) (zK (pv 0) rfl) (pv 1) (fun _ _=>rfl)) jX (yE _)) (zK (pv 0) rfl) (pv 2)))),?_⟩
 obtain⟨kvs,e1,e2⟩:=hR.ed
 refine⟨_,rfl,g,_,c.dx,gF c ov,_,rfl,hR.go,T.au,T.jG,rfl,_,rfl,c.ed,.non,rfl,(by rw [← e2 z hz];exact fX.k (k:=.inr z) e1),rfl,_,rfl,bU ?_⟩
 exact⟨_,rfl,g,_,c.dx,gF c ov,_,rfl,hR.go,T.au,T.dG,rfl,q⟩
def JOw (T:Txt K mg A):cM P w K mg base bW 2 A.aj "own_thing":=⟨_,_,_,_,[],[],T.au,T.mU,(R3 T).mono (by decide),T.o7,.nil⟩
theorem WL (T:Txt K mg A):bz P w K mg base bW 3 A.fu A.fB ["self","question","thing"] (Wz A):=by
 refine T.qd.ok pB (fun vs H Q E h=>?_) (fun cdv A0 outer s H vs Q E hr h=>?_)
 · obtain⟨g,c,ov,S,bk,l,z,rfl,_⟩:=h
   rfl
 obtain⟨g,c,ov,S,bk,l,z,rfl,hR,hz,q⟩:=h
 obtain⟨CV,e1⟩:∃ k:Nat,k=2:=⟨_,rfl⟩
 refine⟨_,(zF (zO (uY (xK hr) (Ju (xK hr) (zK (pv 0) rfl) (pv 1) km ⟨rfl,rfl,rfl,rfl⟩) (zW (CX:=bW) (k:=CV) ‹hr› zN (pv 0) (zA (pv 1) (zA (pv 2) zD))) ⟨rfl,rfl,rfl,rfl⟩))),?_⟩
 subst e1
 obtain⟨kvs,a1,a2⟩:=hR.aq
 refine⟨_,rfl,g,_,c.dx,gF c ov,_,rfl,hR.go,T.au,T.cO,rfl,c.aq,rfl,.inl ⟨kvs,.inl a1⟩,_,rfl,fun d hd=>?_⟩
 have s1:=zH hd (.dK [])
 have R1:=hR.kq (.of s1)
 refine⟨_,fX.k (k:=.inr z) (s1 _ _ a1),?_⟩
 by_cases hm:z∈l
 · obtain⟨d2,b,b1,b2,b3⟩:=a2.2.1 z hm
   rw [b2]
   refine⟨d2,rfl,.inl ⟨_,.inl (s1 _ _ b3)⟩,_,rfl,g,_,c.dx,gF c ov,JOw T,rfl,R1.go,rfl,_,rfl,_,rfl,?_⟩
   refine⟨g,c,ov,S,bk,l,z,rfl,R1,hz,_,fX.k (k:=.inr ‹""›) (s1 _ _ b3),?_⟩
   have e:rv (Rk bk l z)=.int (Dp b):=by unfold Rk;rw [if_pos hm,b1];rfl
   have:=q _ s1
   rw [e] at this
   exact this
 · rw [a2.2.2 z hm]
   refine⟨d,rfl,.inl ⟨_,.inl zB⟩,_,rfl,g,_,c.dx,gF c ov,JOw T,rfl,R1.go,rfl,_,rfl,_,rfl,?_⟩
   refine⟨g,c,ov,S,bk,l,z,rfl,R1,hz,_,fX.k (k:=.inr ‹""›) zB,?_⟩
   have e:rv (Rk bk l z)=.non:=by unfold Rk;rw [if_neg hm];rfl
   have:=q _ s1
   rw [e] at this
   exact this
def JKn (T:Txt K mg A):cM P w K mg base bW 3 A.aj "known_of":=⟨_,_,_,_,[],[],T.au,T.ou,WL T,T.qe,.nil⟩
theorem WM (T:Txt K mg A):bz P w K mg base bW 4 A.dW A.dX ["self","name","thing"] (Wz A):=by
 refine T.nO.ok mV (fun vs H Q E h=>?_) (fun cdv A0 outer s H vs Q E hr h=>?_)
 · obtain⟨g,c,ov,S,bk,l,z,rfl,_⟩:=h
   rfl
 obtain⟨g,c,ov,S,bk,l,z,rfl,hR,hz,q⟩:=h
 obtain⟨Fo,e1⟩:∃ k:Nat,k=3:=⟨_,rfl⟩
 refine⟨_,(zE (yH (zZ (pR (xK hr)) (pv 1) (zK (pv 0) rfl) (by rfl)) (zF (zO (zW (CX:=bW) (k:=Fo) ‹hr› zN (pv 0) (zA (pv 1) (zA (pv 2) zD))))) zV)
     (zE GC
     (zF GC))),?_⟩
 subst e1
 refine⟨_,rfl,_,rfl,g,_,c.dx,gF c ov,_,rfl,hR.go,T.au,T.il,rfl,c.tg,_,rfl,fX.k (k:=.inr z) hR.tg,_,rfl,bU ?_⟩
 refine⟨_,rfl,g,_,c.dx,gF c ov,JKn T,rfl,hR.go,rfl,_,rfl,_,rfl,?_⟩
 exact⟨g,c,ov,S,bk,l,z,rfl,hR,hz,q⟩
def JRk (T:Txt K mg A):cM P w K mg base bW 4 A.aj "rank_of":=⟨_,_,_,_,[],[],T.au,T.pA,WM T,T.nP,.nil⟩
theorem CW (T:Txt K mg A):bz P w K mg base bW 1 A.lK A.pY ["rank","how","number"] RZ:=by
 refine T.Ep.ok CK (fun vs H Q E h=>?_) (fun cdv A0 outer s H vs Q E hr h=>?_)
 · obtain⟨r,m,rfl,_⟩:=h
   rfl
 obtain⟨r,m,rfl,q⟩:=h
 refine⟨_,(zE (yH (zZ rF (pv 0) jX (yE _)) (zF (zO mY)) zV)
     (zE (yH (zZ jj (pv 1) zS (yE _)) (zF (zO (iY Gi (pv 0) (pv 2) (yE _)))) zV)
     (zE (yH (zZ jj (pv 1) zS (yE _)) (zF (zO (iY Jg (pv 0) (pv 2) (yE _)))) zV)
     (zF (zO (iY jj (pv 0) (pv 2) (yE _))))))),?_⟩
 cases r with
 | none=>exact⟨_,rfl,rfl,_,rfl,bU q⟩
 | some i =>
   refine⟨_,rfl,rfl,_,rfl,bN ?_⟩
   refine⟨_,rfl,rfl,_,rfl,Uu (by symm) ⟨_,rfl,rfl,_,rfl,Uu (by symm) ⟨_,rfl,_,rfl,rfl,?_⟩⟩⟩
   have e:decide (V.int i=V.int m)=decide (some i=some m):=by
     by_cases e:i=m
     · subst e;rw [decide_eq_true rfl,decide_eq_true rfl]
     · rw [decide_eq_false (fun z=>e (V.int.inj z)),decide_eq_false (fun z=>e (Option.some.inj z))]
   rw [← e] at q
   exact q
theorem CZ (T:Txt K mg A):bz P w K mg base bW 6 A.lM A.lN ["self","look"] (WD A):=by
 have Fp:=CW (P:=P) (w:=w) (base:=base) T
 refine T.zr.ok wZ (fun vs H Q E h=>?_) (fun cdv A0 outer s H vs Q E hr h=>?_)
 · obtain⟨a,dx,n,b,p,S,bk,l,rfl,_⟩:=h
   rfl
 obtain⟨a,dx,n,b,p,S,bk,l,rfl,ha,⟨cs,g,c,ov,L,R⟩,hz,q⟩:=h
 refine⟨_,(zF (zO (yF Fp ‹hr› rfl T.Et T.Es T.Er .nil zN (zA (J7 (k:=4) Lk (fun _ _ _ _ _ _ _ _ hr=>Ln hr) ‹hr› zN (pv 1) (zA (zK (pv 0) rfl) zD)) (zA zS (zA (zK (pv 0) rfl) zD)))))),?_⟩
 have R1:=R.kq (Ww L)
 refine⟨_,rfl,p,rfl,_,rfl,a,_,dx,_,_,rfl,ha,T.oA,T.mF,rfl,.str n,cs,_,rfl,L,?_⟩
 refine⟨_,rfl,g,_,c.dx,gF c ov,JRk T,rfl,R1.go,rfl,_,rfl,_,rfl,?_⟩
 refine⟨g,c,ov,S,bk,l,n,rfl,R1,hz,fun H' s'=>?_⟩
 have s2:=aD.back s'
 exact⟨_,rfl,a,_,dx,_,_,rfl,s2 _ _ ha,T.oA,T.tX,rfl,_,_,rfl,q _ s2⟩
def JHi (T:Txt K mg A) {k:Nat} (hk:6≤k):cM P w K mg base bW k A.rP "holds":=⟨_,_,_,_,[],[],T.oA,T.CJ,(CZ T).mono hk,T.zu,.nil⟩
theorem Dc (T:Txt K mg A):bz P w K mg base bW 7 A.jZ A.j0 ["self","look"] (WK A):=by
 refine T.wM.ok v9 (fun vs H Q E h=>?_) (fun cdv A0 outer s H vs Q E hr h=>?_)
 · obtain⟨a,dx,b,db,n,p,S,bk,l,rfl,_⟩:=h
   rfl
 obtain⟨a,dx,b,db,n,p,S,bk,l,rfl,ha,hb,hL,hz,q⟩:=h
 obtain⟨Oo,e1⟩:∃ k:Nat,k=6:=⟨_,rfl⟩
 refine⟨_,(zF (zO (QF (zW (CX:=bW) (k:=Oo) ‹hr› zN (zK (pv 0) rfl) (zA (pv 1) zD))))),?_⟩
 subst e1
 refine⟨_,rfl,a,_,dx,_,_,rfl,ha,T.vY,T.oE,rfl,b,_,db,_,JHi T (Nat.le_refl _),rfl,hb,rfl,_,rfl,?_⟩
 exact⟨b,db,n,true,p,S,bk,l,rfl,hb,hL,hz,fun H' s'=>⟨_,rfl,q H' s'⟩⟩
def JHn (T:Txt K mg A):cM P w K mg base bW 7 A.nA "holds":=⟨_,_,_,_,[],[],T.vY,T.Af,Dc T,T.wN,.nil⟩
end
theorem yS {H:Hp}{x dx:Addr} (nx:H x=none) (nd:H dx=none) (o:HO):aD H (upd (upd H dx (.own x)) x o):=fun b u e=>by
 rw [zG (zC e nx),zG (zC e nd)];exact e
def WN (A:cJ):Sp:=fun vs H Q _=>∃ a dx n b d kvs S,vs=[.ref a,.ref d]∧H a=some (Mm A dx n (Wu b) .non)∧H d=some (.dK kvs)∧Lh A H kvs S∧fU S n∧∀ a' Dq H',aD H H'→H' a'=some (Mm A Dq n (Wu b) (.int (Dp b)))→Q (.ref a') H'
def WQ (A:cJ):Sp:=fun vs H Q _=>∃ a dx b db n d kvs S,vs=[.ref a,.ref d]∧H a=some (Ut A dx b)∧H b=some (Mm A db n ‹"yes"› .non)∧H d=some (.dK kvs)∧Lh A H kvs S∧fU S n ∧
 ∀ a' Dq b' WR H',aD H H'→H' a'=some (Ut A Dq b')→H' b'=some (Mm A WR n ‹"yes"› (.int 1))→Q (.ref a') H'
section
variable {P:Program}{w:World}{K:W.Frag}{mg:Str→Option Value}{base:Heap}{A:cJ}
theorem Oq {t c d:Value}{a b:Bool} (h1:W.kitOne K t c=some a) (h2:W.kitOne K t d=some b):W.kitAny K t [c,d]=some (a || b):=by
 show (match W.kitOne K t c with | some true=>some true | some false=>(match W.kitOne K t d with | some true=>some true | some false=>some false | none=>none) | none=>none)=_
 rw [h1,h2]
 cases a <;> cases b <;> rfl
theorem WT (b:Bool):vp YN (Wu b)=.bl b:=by
 cases b
 · show vp YN ‹"no"› = _;decide +kernel
 · show vp YN ‹"yes"› = _;decide +kernel
theorem xm (T:Txt K mg A):bz P w K mg base bW 6 A.jC A.jD ["self","kinds"] (WN A):=by
 have gZ:=wg (P:=P) (w:=w) (base:=base) T
 refine T.vQ.ok iM (fun vs H Q E h=>?_) (fun cdv A0 outer s H vs Q E hr h=>?_)
 · obtain⟨a,dx,n,b,d,kvs,S,rfl,_⟩:=h
   rfl
 obtain⟨a,dx,n,b,d,kvs,S,rfl,ha,hd,hK,hz,q⟩:=h
 refine⟨_,(zE (zU (i:=2) iM.nd rfl ‹0› (uY (xK hr) (pv 1) (zK (pv 0) rfl) ⟨rfl,rfl,rfl,rfl⟩))
     (zE (yH (iw (yJ (yI Hs (by rfl) T.cB Bt.isinstance (zA (pv 2) (zA (yN (zA (Bs rfl T.Oc) (zA (Bs rfl T.RC) zD))) zD))))) (zF GC) zV)
     (zE (zU (i:=3) iM.nd rfl ‹0› (zW (CX:=bW) (k:=4) ‹hr› zN (pv 2) (zA (zK (pv 0) rfl) zD)))
     (zE (yH (iw (yJ (zW (CX:=bW) (k:=4) ‹hr› zN (pv 2) (zA (pv 3) zD)))) (zF GC) zV)
     (zF (zO (gR T.K5 gZ ‹hr› rfl T.Rz T.wL .nil zN (zA (zK (pv 0) rfl) (zA (zK (pv 0) rfl) (zA (zW (CX:=bW) (k:=4) ‹hr› zN (pv 2) (zA (pv 3) zD)) zD)))))))))),?_⟩
 obtain⟨k,dk,k1,k2⟩:=hK n hz
 refine⟨_,rfl,d,rfl,.inl ⟨kvs,.inl hd⟩,_,rfl,a,_,dx,_,_,rfl,ha,T.oA,T.mF,rfl,_,fX.k (k:=.inr n) hd,?_⟩
 rw [k1]
 refine⟨_,rfl,(by show 2≤sizeLine;decide),fun t1 ht1=>?_⟩
 have s1:=zH ht1 (.tup [.ref A.cj,.ref A.Eg])
 have ha1:=s1 _ _ ha
 have k21:=s1 _ _ k2
 refine⟨_,t1,_,_,_,rfl,zB,rfl,.old (T.KQ _ k dk _ k21),Oq T.vV T.wQ,_,rfl,bN ?_⟩
 refine⟨_,rfl,k,_,dk,_,JAn T,rfl,k21,rfl,_,rfl,a,_,dx,_,_,rfl,ha1,T.oA,T.qm,rfl,_,Wu b,rfl,?_⟩
 rw [WT]
 refine⟨_,rfl,k,_,dk,_,JF T,rfl,k21,rfl,_,rfl,_,some b,rfl,_,rfl,bN ?_⟩
 refine⟨_,rfl,a,_,dx,_,_,rfl,ha1,T.oA,T.mF,rfl,_,rfl,a,_,dx,_,_,rfl,ha1,T.oA,T.qm,rfl,?_⟩
 refine⟨_,rfl,k,_,dk,_,JK T,rfl,k21,rfl,_,rfl,_,b,rfl,?_⟩
 intro x Dq nx nd ne
 refine⟨x,Dq,_,_,_,rfl,zB,rfl,?_⟩
 rw [yQ]
 exact q x Dq _ (s1.trans (yS nx nd _)) zB
def JSi (T:Txt K mg A) {k:Nat} (hk:6≤k):cM P w K mg base bW k A.rP "settled":=⟨_,_,_,_,[],[],T.oA,T.wX,(xm T).mono hk,T.vR,.nil⟩
theorem xn (T:Txt K mg A):bz P w K mg base bW 7 A.iJ A.iK ["self","kinds"] (WQ A):=by
 have jJ:=wj (P:=P) (w:=w) (base:=base) T
 refine T.uq.ok sW (fun vs H Q E h=>?_) (fun cdv A0 outer s H vs Q E hr h=>?_)
 · obtain⟨a,dx,b,db,n,d,kvs,S,rfl,_⟩:=h
   rfl
 obtain⟨a,dx,b,db,n,d,kvs,S,rfl,ha,hb,hd,hK,hz,q⟩:=h
 obtain⟨HX,e1⟩:∃ k:Nat,k=6:=⟨_,rfl⟩
 refine⟨_,(zF (zO (gR T.K6 jJ ‹hr› rfl T.Qg T.nT .nil zN (zA (zW (CX:=bW) (k:=HX) ‹hr› zN (zK (pv 0) rfl) (zA (pv 1) zD)) zD)))),?_⟩
 subst e1
 refine⟨_,rfl,a,_,dx,_,_,rfl,ha,T.vY,T.oE,rfl,b,_,db,_,JSi T (Nat.le_refl _),rfl,hb,rfl,_,rfl,?_⟩
 refine⟨b,db,n,true,d,kvs,S,rfl,hb,hd,hK,hz,fun b' WR H' s' hb'=>?_⟩
 intro x Dq nx nd ne
 refine⟨x,Dq,_,rfl,zB,rfl,?_⟩
 rw [yQ]
 have s2:=yS nx nd (Ut A Dq b')
 exact q x Dq b' WR _ (s'.trans s2) zB (s2 _ _ hb')
def JSn (T:Txt K mg A):cM P w K mg base bW 7 A.nA "settled":=⟨_,_,_,_,[],[],T.vY,T.vZ,xn T,T.ur,.nil⟩
def Ot (A:cJ) (s:Sy):Sp:=fun vs H Q _=>∃ x d kvs S,vs=[x,.ref d]∧Fj A H false x s∧H d=some (.dK kvs)∧Lh A H kvs S∧fU S s.n∧∀ y H',aD H H'→Fj A H' true y s→Q y H'
def Ou (A:cJ) (s:Sy):Sp:=fun vs H Q _=>∃ x p S bk l,vs=[x,.ref p]∧Fj A H true x s∧RX A H p S bk l∧fU S s.n∧∀ H',aD H H'→Q (.bl (evS (Rk bk l) s)) H'
theorem mSt (T:Txt K mg A) {H:Hp}{x:V}{s:Sy} (h:Fj A H false x s):∃ (a C dx:Addr) (fs:List (Str × V)) (M:cM P w K mg base bW 7 C "settled"),x=.ref a∧H a=some (.ins C dx fs)∧fs.lookup ‹"settled"› = none∧M.pG=[]∧M.sp=Ot A s:=by
 have sub:∀ {C:Addr}{sp:Sp} (M:cM P w K mg base bW 7 C "settled"),M.pG=[]→(∀ vs H Q E,sp vs H Q E→M.sp vs H Q E)→∃ M':cM P w K mg base bW 7 C "settled",M'.pG=[]∧M'.sp=sp:=fun {C sp} M hd h =>
   ⟨⟨M.f,M.fd,M.ps,sp,M.ds,M.pG,M.c,M.hm,M.F.imp h,M.hb,M.hd⟩,hd,rfl⟩
 cases s with
 | yes n =>
   obtain⟨a,dx,rfl,h⟩:=h
   obtain⟨M,m1,m2⟩:=sub (sp:=Ot A (.yes n)) (JSi (P:=P) (w:=w) (base:=base) T (by decide:6≤7)) rfl (fun vs H Q E z=>by
     obtain⟨x,d,kvs,S,rfl,⟨a,dx,rfl,h⟩,h2,h3,h4,q⟩:=z
     exact⟨a,dx,n,true,d,kvs,S,rfl,h,h2,h3,h4,fun a' Dq H' s' h'=>q _ H' s' ⟨a',Dq,rfl,h'⟩⟩)
   exact⟨a,_,dx,_,M,rfl,h,rfl,m1,m2⟩
 | no n =>
   obtain⟨a,dx,rfl,h⟩:=h
   obtain⟨M,m1,m2⟩:=sub (sp:=Ot A (.no n)) (JSi (P:=P) (w:=w) (base:=base) T (by decide:6≤7)) rfl (fun vs H Q E z=>by
     obtain⟨x,d,kvs,S,rfl,⟨a,dx,rfl,h⟩,h2,h3,h4,q⟩:=z
     exact⟨a,dx,n,false,d,kvs,S,rfl,h,h2,h3,h4,fun a' Dq H' s' h'=>q _ H' s' ⟨a',Dq,rfl,h'⟩⟩)
   exact⟨a,_,dx,_,M,rfl,h,rfl,m1,m2⟩
 | nt n =>
   obtain⟨a,dx,b,db,rfl,h,h'⟩:=h
   obtain⟨M,m1,m2⟩:=sub (sp:=Ot A (.nt n)) (JSn (P:=P) (w:=w) (base:=base) T) rfl (fun vs H Q E z=>by
     obtain⟨x,d,kvs,S,rfl,⟨a,dx,b,db,rfl,h,h'⟩,h2,h3,h4,q⟩:=z
     exact⟨a,dx,b,db,n,d,kvs,S,rfl,h,h',h2,h3,h4,fun a' Dq b' WR H' s' h1 h2=>q _ H' s' ⟨a',Dq,b',WR,rfl,h1,h2⟩⟩)
   exact⟨a,_,dx,_,M,rfl,h,rfl,m1,m2⟩
theorem mHo (T:Txt K mg A) {H:Hp}{x:V}{s:Sy} (h:Fj A H true x s):∃ (a C dx:Addr) (fs:List (Str × V)) (M:cM P w K mg base bW 7 C "holds"),x=.ref a∧H a=some (.ins C dx fs)∧fs.lookup ‹"holds"› = none∧M.pG=[]∧M.sp=Ou A s:=by
 have sub:∀ {C:Addr}{sp:Sp} (M:cM P w K mg base bW 7 C "holds"),M.pG=[]→(∀ vs H Q E,sp vs H Q E→M.sp vs H Q E)→∃ M':cM P w K mg base bW 7 C "holds",M'.pG=[]∧M'.sp=sp:=fun {C sp} M hd h =>
   ⟨⟨M.f,M.fd,M.ps,sp,M.ds,M.pG,M.c,M.hm,M.F.imp h,M.hb,M.hd⟩,hd,rfl⟩
 cases s with
 | yes n =>
   obtain⟨a,dx,rfl,h⟩:=h
   obtain⟨M,m1,m2⟩:=sub (sp:=Ou A (.yes n)) (JHi (P:=P) (w:=w) (base:=base) T (by decide:6≤7)) rfl (fun vs H Q E z=>by
     obtain⟨x,p,S,bk,l,rfl,⟨a,dx,rfl,h⟩,h2,h3,q⟩:=z
     exact⟨a,dx,n,true,p,S,bk,l,rfl,h,h2,h3,q⟩)
   exact⟨a,_,dx,_,M,rfl,h,rfl,m1,m2⟩
 | no n =>
   obtain⟨a,dx,rfl,h⟩:=h
   obtain⟨M,m1,m2⟩:=sub (sp:=Ou A (.no n)) (JHi (P:=P) (w:=w) (base:=base) T (by decide:6≤7)) rfl (fun vs H Q E z=>by
     obtain⟨x,p,S,bk,l,rfl,⟨a,dx,rfl,h⟩,h2,h3,q⟩:=z
     exact⟨a,dx,n,false,p,S,bk,l,rfl,h,h2,h3,q⟩)
   exact⟨a,_,dx,_,M,rfl,h,rfl,m1,m2⟩
 | nt n =>
   obtain⟨a,dx,b,db,rfl,h,h'⟩:=h
   obtain⟨M,m1,m2⟩:=sub (sp:=Ou A (.nt n)) (JHn (P:=P) (w:=w) (base:=base) T) rfl (fun vs H Q E z=>by
     obtain⟨x,p,S,bk,l,rfl,⟨a,dx,b,db,rfl,h,h'⟩,h2,h3,q⟩:=z
     exact⟨a,dx,b,db,n,p,S,bk,l,rfl,h,h',h2,h3,q⟩)
   exact⟨a,_,dx,_,M,rfl,h,rfl,m1,m2⟩
def Uv (H:Hp) (Pt:Addr):Prop:=H Pt=some (.qp (di DL.qual Lj))
def afe (A:cJ) (Pt:Addr):Sp:=fun vs H Q _=>∃ g x c ov S bk l kvs sg,vs=[.ref g,x,.str ‹""›]∧Uv H Pt∧Ol A H g c ov S bk l∧H c.kd=some (.dK kvs)∧Lh A H kvs S∧Le A H x sg∧(∀ y,sg=some y→fU S y.n)∧∀ H',aD H H'→Q (.bl (hold bk l sg)) H'
theorem ysC:∀ y∈DL.ys,(aa aB).names.lookup y=some .cell:=by
 intro y hy
 have hy:y∈(["thing","self"]:List Str):=hy
 rcases List.mem_cons.mp hy with rfl | hy
 · rfl
 · rw [List.mem_singleton.mp hy];rfl
theorem WW (T:Txt K mg A) (B:BMain mg base) {c0 Pt:Addr} (hc:A.aF.code=.ref c0) (hh:W.codeHdIn K c0 Pt=true):bz P w K mg base bW 8 A.dz A.aF ["self","saying","thing"] (afe A Pt):=by
 refine bz.weak (Pt:=Pt) (q:=DL.qual) (pos:=Lj) (sp:=fun vs H Q E=>∃ g x c ov S bk l kvs sg,vs=[.ref g,x,.str ‹""›]∧Uv H Pt∧Ol A H g c ov S bk l∧H c.kd=some (.dK kvs)∧Lh A H kvs S∧Le A H x sg∧(∀ y,sg=some y→fU S y.n)∧((sg=none∧Q (.bl true) H)∨(sg≠none∧∀ c' H',Gw Pt H H'→H' Pt=some (.qp (di DL.qual Lj ++ #[.ref c']))→Q (.bl (hold bk l sg)) H'))) ?_ ?_
 · refine T.qg.okC pC (fun vs H Q E h=>?_) (fun cdv A0 outer s H vs Q E hcd hr h=>?_)
   · obtain⟨g,x,c,ov,S,bk,l,kvs,sg,rfl,_⟩:=h
     rfl
   obtain⟨g,x,c,ov,S,bk,l,kvs,sg,rfl,hT,hR,hk,hK,hS,hz,q⟩:=h
   rw [hc] at hcd
   subst hcd
   refine⟨_,(zF (zO (Vr (iY rF (pv 1) jX (yE _)) (QD (Ka (D:=DL) (Pt:=Pt) (Nx:=Lj) (is:=[2,0]) (k:=7) (hr.mono (by decide)) (zW (CX:=bW) (k:=7) (hr.mono (by decide)) zN (pv 1) (zA (zK (pv 0) rfl) zD))
     (zA (Nu Lk rfl rfl rfl hh B ysC) zD) (fun y hy=>⟨rfl,ysC y hy⟩) (by symm) (.cons rfl (.cons rfl .nil))))))),?_⟩
   cases sg with
   | none =>
     have hS:x=.non:=hS
     subst hS
     rcases q with ⟨_,q⟩ | ⟨z,_⟩
     · exact⟨_,rfl,rfl,_,rfl,bU q⟩
     · exact absurd rfl z
   | some y =>
     have hS:Fj A H false x y:=hS
     have hx:∃ a,x=.ref a:=by
       cases y with
       | yes n=>obtain⟨a,_,e,_⟩:=hS;exact⟨a,e⟩
       | no n=>obtain⟨a,_,e,_⟩:=hS;exact⟨a,e⟩
       | nt n=>obtain⟨a,_,_,_,e,_⟩:=hS;exact⟨a,e⟩
     obtain⟨xa,rfl⟩:=hx
     rcases q with ⟨z,_⟩ | ⟨_,q⟩
     · cases z
     refine⟨_,rfl,rfl,_,rfl,bN ?_⟩
     obtain⟨a,C,dx,fs,M,ex,ha,hl,m1,m2⟩:=mSt (P:=P) (w:=w) (base:=base) T hS
     refine⟨_,rfl,a,C,dx,fs,M,ex,ha,hl,_,rfl,g,_,c.dx,gF c ov,_,rfl,hR.go,T.au,T.fP,rfl,?_⟩
     rw [m1,m2]
     refine⟨_,c.kd,kvs,S,rfl,hS,hk,hK,hz y rfl,fun y2 H1 s1 hS1=>?_⟩
     obtain⟨a2,C2,WX,fs2,M2,rfl,ha2,hl2,n1,n2⟩:=mHo (P:=P) (w:=w) (base:=base) T hS1
     refine⟨a2,C2,WX,fs2,M2,rfl,ha2,hl2,s1 _ _ hT,fun p c' H2 np sB hT2 hp hc'=>?_⟩
     refine⟨c',[.str ‹""›,.ref g],hT2,.cons rfl (.cons rfl .nil),fun H3 L=>?_⟩
     rw [n1,n2]
     have k12:Kq H1 H2:=fun b o e po=>sB b o (by rintro rfl;rw [s1 _ _ hT] at e;cases e;exact po) e
     have k23:Kq H2 H3:=fun b o e po=>L.keep b o e (by rintro rfl;rw [hT2] at e;cases e;exact po) (by rintro rfl;rw [hc'] at e;cases e;exact po)
     have k03:Kq H H3:=((Kq.of s1).trans k12).trans k23
     have LA:yc DL H3 p (oZ (yp bW P w K mg base ["self","saying","thing"] ‹"Straight.is_so"› (aa aB) A.dz (.ref c0) A0 outer s H E).uT.env DL.ys) [.str ‹""›,.ref g] :=
       ⟨⟨c',k23 _ _ hp trivial,L.code⟩,rfl,L.nd,L.cells⟩
     refine⟨_,p,S,bk,l,rfl,hS1.kq (k12.trans k23),⟨_,g,c,ov,LA,hR.kq k03⟩,hz y rfl,fun H4 s4 H5 r5=>?_⟩
     have s25:=L.same s4 r5
     exact q c' H5 (fun b o hb e=>s25 _ _ (sB b o hb (s1 _ _ e))) (s25 _ _ hT2)
 · intro vs H Q E h
   obtain⟨g,x,c,ov,S,bk,l,kvs,sg,rfl,hT,hR,hk,hK,hS,hz,q⟩:=h
   refine⟨hT,g,x,c,ov,S,bk,l,kvs,sg,rfl,hT,hR,hk,hK,hS,hz,?_⟩
   cases sg with
   | none=>exact .inl ⟨rfl,.inr ⟨hT,q _ (aD.refl _)⟩⟩
   | some y =>
     refine .inr ⟨by simp,fun c' H' sB hT'=>.inl ⟨c',hT',q _ fun b o e=>?_⟩⟩
     by_cases hb:b=Pt
     · subst hb;rw [hT] at e;cases e;exact zB
     · rw [zG hb];exact sB b o hb e
def JSo (T:Txt K mg A) (B:BMain mg base) {c0 Pt:Addr} (hc:A.aF.code=.ref c0) (hh:W.codeHdIn K c0 Pt=true):cM P w K mg base bW 8 A.aj "is_so":=⟨_,_,_,_,[],[],T.au,T.qR,WW T B hc hh,T.qi,.nil⟩
end
abbrev DB:=List (List Key × V)
def keyOf (z:Str):List Key:=[.inr z,.inr ‹""›]
def Ov (b:DB) (z:Str):V:=(bR b (keyOf z)).getD .non
def iR (w n:Str):List V:=[.str w,.str n,.str ‹""›]
def Fq (n:Str) (b:Bool):List V:=[.str ‹"ask"›,.str n,.str ‹""›,.bl b]
def Ow:List V:=[.str ‹"end"›]
def wF (H:Hp) (x:V) (t:List V):Prop:=∃ a,x=.ref a∧H a=some (.tup t)
theorem wF.same {H H':Hp} (f:aD H H') {x:V}{t:List V} (h:wF H x t):wF H' x t:=by
 obtain⟨a,e,h1⟩:=h
 exact⟨a,e,f _ _ h1⟩
structure Gs where
 l:List Str
 L:List (List V)
 ov:Bool
def dm (bk:Bk) (s:Gs) (r:Rw):Gs :=
 if s.ov=true then s else if r.Ak=true then
   (if hold bk s.l r.sg=true then ⟨s.l,s.L++[iR ‹"pass"› r.nm],false⟩ else if r.firm=true then ⟨s.l,s.L++[iR ‹"held"› r.nm],true⟩ else ⟨s.l,s.L++[iR ‹"warn"› r.nm],false⟩)
 else if hold bk s.l r.sg=true then (match bk r.nm with | none=>⟨s.l,s.L++[iR ‹"open"› r.nm],true⟩ | some b=>⟨s.l++[r.nm],s.L++[Fq r.nm b],false⟩) else s
def aM (bk:Bk) (s:Gs) (rs:List Rw):Gs:=rs.foldl (dm bk) s
theorem Lp (bk:Bk) (s:Gs) (r:Rw):(dm bk s r).L.length≤s.L.length+1∧(dm bk s r).l.length≤s.l.length+1:=by
 unfold dm
 repeat' split
 all_goals first | omega | (simp only [List.length_append,List.length_cons,List.length_nil];omega)
theorem Ox {bk:Bk}{s:Gs}{r:Rw} (h:s.ov=true):dm bk s r=s:=by unfold dm;rw [if_pos h]
theorem Am {bk:Bk}{s:Gs} (h:s.ov=true):∀ rs,aM bk s rs=s
 | []=>rfl
 | r::rs=>by
   show aM bk (dm bk s r) rs=s
   rw [Ox h];exact Am h rs
theorem ye {bk:Bk}{s:Gs}{rs:List Rw}{r:Rw}:aM bk s (rs++[r])=dm bk (aM bk s rs) r:=by
 unfold aM;rw [List.foldl_append];rfl
theorem rn (bk:Bk) (s:Gs) (rs:List Rw):(aM bk s rs).L.length≤s.L.length+rs.length∧(aM bk s rs).l.length≤s.l.length+rs.length:=by
 induction rs generalizing s with
 | nil=>exact⟨Nat.le_refl _,Nat.le_refl _⟩
 | cons r rs ih =>
   have a:=ih (dm bk s r)
   have b:=Lp bk s r
   have e:aM bk s (r::rs)=aM bk (dm bk s r) rs:=rfl
   rw [e,List.length_cons]
   omega
structure Cst (A:cJ) (H0:Hp) (c:GA) (S:List kW) (bk:Bk) (Pt:Addr):Prop where
 pa:Lg A H0 c.pa S
 bk:∃ b,H0 c.bk=some (.dT b)∧∀ z,Ov b z=bv (bk z)
 tb:Uv H0 Pt
 kd:∃ kvs,H0 c.kd=some (.dK kvs)∧Lh A H0 kvs S
 ed:∃ kvs,H0 c.ed=some (.dK kvs)∧EdR kvs S
 tg:H0 c.tg=some (.dK [])
 gs:GS S
structure j6 (A:cJ) (H0:Hp) (c:GA) (S:List kW) (bk:Bk) (Pt g:Addr) (H:Hp) (s:Gs) (m:Nat):Prop where
 same:aD H0 H
 cst:Cst A H0 c S bk Pt
 ng:H0 g=none
 HY:H0 c.aq=none
 Ia:H0 c.lg=none
 Ib:H0 c.db=none
 ld:c.lg≠c.db
 go:H g=some (RV A c s.ov)
 aq:∃ kvs,H c.aq=some (.dK kvs)∧RW H kvs bk s.l∧∀ z d,bR kvs (.inr z)=some (.ref d)→H0 d=none∧d≠c.aq
 lg:∃ ts,H c.lg=some (.lst ts)∧Paired (wF H) ts s.L
 db:∃ ts,H c.db=some (.lst ts)∧ts.length≤m
section
variable {A:cJ}{H0 H H':Hp}{c:GA}{S:List kW}{bk:Bk}{Pt g:Addr}{s:Gs}{m:Nat}
theorem j6.rk (h:j6 A H0 c S bk Pt g H s m):Ol A H g c s.ov S bk s.l:=by
 obtain⟨k,k1,k2⟩:=h.cst.ed
 obtain⟨a,a1,a2,_⟩:=h.aq
 exact⟨h.go,h.same _ _ h.cst.tg,⟨k,h.same _ _ k1,k2⟩,⟨a,a1,a2⟩⟩
theorem j6.mono (h:j6 A H0 c S bk Pt g H s m) (f:aD H H'):j6 A H0 c S bk Pt g H' s m:=by
 obtain⟨a,a1,a2,a3⟩:=h.aq
 obtain⟨t,t1,t2⟩:=h.lg
 obtain⟨d,d1,d2⟩:=h.db
 exact⟨h.same.trans f,h.cst,h.ng,h.HY,h.Ia,h.Ib,h.ld,f _ _ h.go,⟨a,f _ _ a1,a2.kq (.of f),a3⟩,⟨t,f _ _ t1,zJ t2 fun _ _=>wF.same f⟩,⟨d,f _ _ d1,d2⟩⟩
theorem rA {H0 H:Hp}{m:Addr} (s:aD H0 H) (n:H0 m=none) (o:HO):aD H0 (upd H m o):=fun x u hx=>by
 rw [zG (zC hx n)];exact s _ _ hx
theorem An {m:Addr}{o u:HO}{L:List (List V)} (hm:H m=some u) (hu:∀ t,u≠.tup t) {ts:List V} (h:Paired (wF H) ts L):Paired (wF (upd H m o)) ts L:=zJ h fun x t z=>by
 obtain⟨a,e,h1⟩:=z
 exact⟨a,e,by rw [zG (yL h1 hm fun z=>hu t z.symm)];exact h1⟩
theorem Ft {m:Addr}{o u:HO}{l:List Str}{kvs:List (Key × V)} (hm:H m=some u) (hu:∀ t,u≠.dK t) (h:RW H kvs bk l):RW (upd H m o) kvs bk l:=⟨h.1,fun z hz=>by
 obtain⟨d,b,h1,h2,h3⟩:=h.2.1 z hz
 exact⟨d,b,h1,h2,by rw [zG (yL h3 hm fun z=>hu _ z.symm)];exact h3⟩,h.2.2⟩
theorem j6.WY (h:j6 A H0 c S bk Pt g H s m) (o:Bool):j6 A H0 c S bk Pt g (upd H g (RV A c o)) ⟨s.l,s.L,o⟩ m:=by
 obtain⟨a,a1,a2,a3⟩:=h.aq
 obtain⟨t,t1,t2⟩:=h.lg
 obtain⟨d,d1,d2⟩:=h.db
 refine⟨rA h.same h.ng _,h.cst,h.ng,h.HY,h.Ia,h.Ib,h.ld,zB,⟨a,?_,Ft h.go (fun _ z=>by cases z) a2,a3⟩,⟨t,?_,An h.go (fun _ z=>by cases z) t2⟩,⟨d,?_,d2⟩⟩
 · rw [zG (yL a1 h.go (by intro z;cases z))];exact a1
 · rw [zG (yL t1 h.go (by intro z;cases z))];exact t1
 · rw [zG (yL d1 h.go (by intro z;cases z))];exact d1
theorem j6.app (h:j6 A H0 c S bk Pt g H s m) {ts:List V} (t1:H c.lg=some (.lst ts)) {t:Addr}{e:List V} (ht:H t=some (.tup e)):j6 A H0 c S bk Pt g (upd H c.lg (.lst (ts++[.ref t]))) ⟨s.l,s.L++[e],s.ov⟩ m:=by
 obtain⟨a,a1,a2,a3⟩:=h.aq
 obtain⟨t',Qi,t2⟩:=h.lg
 obtain⟨d,d1,d2⟩:=h.db
 rw [t1] at Qi;cases Qi
 refine⟨rA h.same h.Ia _,h.cst,h.ng,h.HY,h.Ia,h.Ib,h.ld,?_,⟨a,?_,Ft t1 (fun _ z=>by cases z) a2,a3⟩,⟨_,zB,yO (An t1 (fun _ z=>by cases z) t2) (.cons ⟨t,rfl,?_⟩ .nil)⟩,⟨d,?_,d2⟩⟩
 · rw [zG (yL h.go t1 (by intro z;cases z))];exact h.go
 · rw [zG (yL a1 t1 (by intro z;cases z))];exact a1
 · rw [zG (yL ht t1 (by intro z;cases z))];exact ht
 · rw [zG (Ne.symm h.ld)];exact d1
theorem j6.dbl (h:j6 A H0 c S bk Pt g H s m) {ts:List V} (t1:H c.db=some (.lst ts)) {v:V}:j6 A H0 c S bk Pt g (upd H c.db (.lst (ts++[v]))) s (m+1):=by
 obtain⟨a,a1,a2,a3⟩:=h.aq
 obtain⟨t,Qi,t2⟩:=h.lg
 obtain⟨d,d1,d2⟩:=h.db
 rw [t1] at d1;cases d1
 refine⟨rA h.same h.Ib _,h.cst,h.ng,h.HY,h.Ia,h.Ib,h.ld,?_,⟨a,?_,Ft t1 (fun _ z=>by cases z) a2,a3⟩,⟨t,?_,An t1 (fun _ z=>by cases z) t2⟩,⟨_,zB,by rw [List.length_append];exact Nat.add_le_add_right d2 1⟩⟩
 · rw [zG (yL h.go t1 (by intro z;cases z))];exact h.go
 · rw [zG (yL a1 t1 (by intro z;cases z))];exact a1
 · rw [zG h.ld];exact Qi
theorem j6.rebase (h:j6 A H0 c S bk Pt g H s m) {d:Addr}{xs:List V} (hd:H d=some (.lst xs)) (n0:H0 d=none) (nl:c.lg≠d) (nd:c.db≠d):j6 A (upd H0 d (.lst xs)) c S bk Pt g H s m:=by
 have s1:=zH n0 (.lst xs)
 have k1:Kq H0 (upd H0 d (.lst xs)):=.of s1
 obtain⟨a,a1,a2,a3⟩:=h.aq
 obtain⟨c1,⟨b,c2,c3⟩,c4,⟨k,c5,c6⟩,⟨e,c7,c8⟩,c9,c10⟩:=h.cst
 have na:c.aq≠d:=yL a1 hd (by intro z;cases z)
 refine⟨fun x u hx=>?_,⟨c1.kq k1,⟨b,s1 _ _ c2,c3⟩,s1 _ _ c4,⟨k,s1 _ _ c5,c6.kq k1⟩,⟨e,s1 _ _ c7,c8⟩,s1 _ _ c9,c10⟩,?_,?_,?_,?_,h.ld,h.go,⟨a,a1,a2,fun z d' hz=>?_⟩,h.lg,h.db⟩
 · by_cases e:x=d
   · subst e;rw [zB] at hx;cases hx;exact hd
   · rw [zG e] at hx;exact h.same _ _ hx
 · rw [zG (yL h.go hd (by intro z;cases z))];exact h.ng
 · rw [zG na];exact h.HY
 · rw [zG nl];exact h.Ia
 · rw [zG nd];exact h.Ib
 · obtain⟨g1,g2⟩:=a3 z d' hz
   refine⟨?_,g2⟩
   by_cases hz2:z∈s.l
   · obtain⟨d2,b2,_,h2,h3⟩:=a2.2.1 z hz2
     rw [hz] at h2;cases h2
     rw [zG (yL h3 hd (by intro z;cases z))];exact g1
   · rw [a2.2.2 z hz2] at hz;cases hz
end
def Lq (A:cJ) (Pt:Addr):Sp:=fun vs H Q _=>∃ H0 c S bk g s m z b,vs=[.ref g,.str z,.str ‹""›,.int (Dp b)]∧j6 A H0 c S bk Pt g H s m∧bk z=some b∧s.l.length≤1000∧∀ H',j6 A H0 c S bk Pt g H' ⟨s.l++[z],s.L,s.ov⟩ m→Q .non H'
def Lr (A:cJ) (Pt:Addr):Sp:=fun vs H Q _=>∃ H0 c S bk g s m t e,vs=[.ref g,.ref t]∧j6 A H0 c S bk Pt g H s m∧H t=some (.tup e)∧s.L.length≤1000∧∀ H',j6 A H0 c S bk Pt g H' ⟨s.l,s.L++[e],true⟩ m→Q .non H'
section
variable {P:Program}{w:World}{K:W.Frag}{mg:Str→Option Value}{base:Heap}{A:cJ}{Pt:Addr}
theorem Oz (T:Txt K mg A):bz P w K mg base bW 1 A.jz A.jA ["self","question","thing","known"] (Lq A Pt):=by
 refine T.vO.ok uC (fun vs H Q E h=>?_) (fun cdv A0 outer s H vs Q E hr h=>?_)
 · obtain⟨H0,c,S,bk,g,s,m,z,b,rfl,_⟩:=h
   rfl
 obtain⟨H0,c,S,bk,g,s,m,z,b,rfl,hG,hb,hl,k⟩:=h
 refine⟨_,(zE (yH (zZ (pR (xK hr)) (pv 1) (zK (pv 0) rfl) (by rfl)) (zF (qz (xK hr) (zK (pv 0) rfl) (pv 1) km rfl)) zV)
     (zF (qz (xK hr) (lA (xK hr) (zK (pv 0) rfl) (pv 1) (fun _ _=>rfl)) (pv 2) (pv 3) rfl))),?_⟩
 obtain⟨kvs,a1,a2,a3⟩:=hG.aq
 have lk:(gF c s.ov).lookup ‹"asked"› = some (.ref c.aq):=rfl
 refine mG (fun σ H1=>∃ kvs d u,σ=[some (.ref g),some (.str z),some (.str ‹""›),some (.int (Dp b))]∧H1 g=some (RV A c s.ov)∧H1 c.aq=some (.dK kvs)∧bR kvs (.inr z)=some (.ref d)∧H1 d=some (.dK u)∧u.length≤1∧∀ H2,(∀ x,x≠d→H2 x=H1 x)→H2 d=some (.dK [(.inr ‹""›,.int (Dp b))])→(putK u (.inr ‹""›) (.int (Dp b))=[(.inr ‹""›,.int (Dp b))]∧j6 A H0 c S bk Pt g H2 ⟨s.l++[z],s.L,s.ov⟩ m)) ?_ ?_
 · rintro σ H1 ⟨kvs,d,u,rfl,g1,a1,e1,d1,ul,kk⟩
   have g2:fX H1 c.aq (.str z) (some (.ref d)):=by
     have:=fX.k (k:=.inr z) a1
     rw [e1] at this
     exact this
   refine⟨_,rfl,_,rfl,g,_,c.dx,_,_,rfl,g1,T.au,T.cO,lk,_,rfl,c.aq,_,rfl,g2,_,rfl,d,_,rfl,uX.k (k:=.inr ‹""›) d1 (zP (m:=10) (by omega)),?_⟩
   have kk1:=kk (upd H1 d (.dK [(.inr ‹""›,.int (Dp b))])) (fun x hx=>zG hx) zB
   rw [kk1.1]
   exact k _ kk1.2
 intro N hN
 refine⟨_,rfl,_,rfl,g,_,c.dx,_,_,rfl,hG.go,T.au,T.cO,lk,c.aq,_,rfl,fX.k (k:=.inr z) a1,_,rfl,?_⟩
 obtain⟨t,t1,t2⟩:=hG.lg
 obtain⟨db,d1,d2⟩:=hG.db
 by_cases hm:z∈s.l
 · obtain⟨d,b',b1,b2,b3⟩:=a2.2.1 z hm
   rw [hb] at b1;cases b1
   rw [b2]
   refine bN (hN _ _ ⟨kvs,d,_,rfl,hG.go,a1,b2,b3,Nat.le_refl _,fun H2 e2 h2=>⟨by rfl,?_⟩⟩)
   obtain⟨g1,g2⟩:=a3 z d b2
   have ku:aD H H2:=fun x o hx=>by
     by_cases e:x=d
     · subst e;rw [b3] at hx;cases hx;exact h2
     · rw [e2 x e];exact hx
   have G2:=hG.mono ku
   obtain⟨kv',a1',a2',a3'⟩:=G2.aq
   have e:kv'=kvs:=by rw [ku _ _ a1] at a1';cases a1';rfl
   subst e
   refine⟨G2.same,G2.cst,G2.ng,G2.HY,G2.Ia,G2.Ib,G2.ld,G2.go,⟨kv',a1',⟨by have:=a2'.1;simp only [List.length_append];omega,fun y hy=>?_,fun y hy=>a2'.2.2 y fun z=>hy (List.mem_append_left _ z)⟩,a3'⟩,G2.lg,G2.db⟩
   rcases List.mem_append.mp hy with hy | hy
   · exact a2'.2.1 y hy
   · rw [List.mem_singleton.mp hy];exact a2'.2.1 z hm
 · rw [a2.2.2 z hm]
   refine bU ?_
   intro d hd
   have s1:=zH hd (.dK [])
   have G1:=hG.mono s1
   refine⟨_,rfl,g,_,c.dx,_,_,rfl,G1.go,T.au,T.cO,lk,_,rfl,c.aq,_,rfl,uX.k (k:=.inr z) (s1 _ _ a1) (zP (m:=1000000) (by have:=a2.1;omega)),hN _ _ ?_⟩
   have nda:d≠c.aq:=Ne.symm (zC a1 hd)
   refine⟨putK kvs (.inr z) (.ref d),d,[],rfl,by rw [zG (yL G1.go (s1 _ _ a1) (by intro z;cases z))];exact G1.go,zB,by rw [xB,if_pos rfl],by rw [zG nda];exact zB,by decide,fun H2 e2 h2=>⟨by rfl,?_⟩⟩
   have st:∀ {x:Addr}{o:HO},H x=some o→x≠c.aq→H2 x=some o:=fun {x o} hx hn=>by
     have nd:x≠d:=zC hx hd
     rw [e2 x nd,zG hn,zG nd];exact hx
   have nt:∀ {x:Addr}{o:HO},H x=some o→(∀ q,o≠.dK q)→H2 x=some o:=fun {x o} hx hn=>st hx (yL hx a1 (hn _))
   have n0:H0 d=none:=xJ hG.same hd
   refine⟨fun x o hx=>st (hG.same _ _ hx) (zC hx hG.HY),hG.cst,hG.ng,hG.HY,hG.Ia,hG.Ib,hG.ld,nt hG.go (fun _ z=>by cases z),⟨putK kvs (.inr z) (.ref d),by rw [e2 _ (Ne.symm nda)];exact zB,⟨?_,fun y hy=>?_,fun y hy=>?_⟩,fun y d' hy=>?_⟩,⟨t,nt t1 (fun _ z=>by cases z),zJ t2 fun x e z=>?_⟩,⟨db,nt d1 (fun _ z=>by cases z),d2⟩⟩
   · have:=xC kvs (.inr z) (.ref d)
     have:=a2.1
     simp only [List.length_append,List.length_cons,List.length_nil]
     omega
   · by_cases e:y=z
     · subst e
       exact⟨d,b,hb,by rw [xB,if_pos rfl],h2⟩
     · rcases List.mem_append.mp hy with hy | hy
       · obtain⟨d',b',c1,c2,c3⟩:=a2.2.1 y hy
         exact⟨d',b',c1,by rw [xB,if_neg (fun q=>e (Sum.inr.inj q))];exact c2,st c3 (a3 y d' c2).2⟩
       · exact absurd (List.mem_singleton.mp hy) e
   · rw [xB,if_neg (fun q=>hy (List.mem_append_right _ (List.mem_singleton.mpr (Sum.inr.inj q))))]
     exact a2.2.2 y fun q=>hy (List.mem_append_left _ q)
   · rw [xB] at hy
     by_cases e:(Sum.inr y:Key)=.inr z
     · rw [if_pos e] at hy;cases hy;exact⟨n0,nda⟩
     · rw [if_neg e] at hy;exact a3 y d' hy
   · obtain⟨a,e,z⟩:=z
     exact⟨a,e,nt z (fun _ z=>by cases z)⟩
theorem OD (T:Txt K mg A):bz P w K mg base bW 1 A.eN A.eO ["self","row"] (Lr A Pt):=by
 refine T.o8.ok oH (fun vs H Q E h=>?_) (fun cdv A0 outer s H vs Q E hr h=>?_)
 · obtain⟨H0,c,S,bk,g,s,m,t,e,rfl,_⟩:=h
   rfl
 obtain⟨H0,c,S,bk,g,s,m,t,e,rfl,hG,ht,hl,k⟩:=h
 refine⟨_,(zE (zR (xH PySem.F.plainAttrs_list PySem.F.slot_list_append PySem.F.type_list_append zY (zK (pv 0) rfl) (zA (pv 1) zD)))
     (zF (yG (pv 0) mY rfl))),?_⟩
 obtain⟨ts,t1,t2⟩:=hG.lg
 have tl:=zL t2
 refine⟨_,rfl,g,_,c.dx,_,_,rfl,hG.go,T.au,T.cL,rfl,.inl ⟨rfl,_,bQ.of t1⟩,_,rfl,c.lg,_,_,rfl,rfl,t1,zP (m:=1000000) (by omega),?_⟩
 have G1:=hG.app t1 ht
 refine⟨_,rfl,g,_,c.dx,_,rfl,G1.go,T.au,T.bA,(by show 10<1000;decide),?_⟩
 exact k _ (G1.WY true)
end
def JN {K:W.Frag}{mg:Str→Option Value}{A:cJ} (T:Txt K mg A) {P:Program}{w:World}{base:Heap}{Pt:Addr}:cM P w K mg base bW 4 A.aj "note":=⟨_,_,_,Lq A Pt,[],[],T.au,T.sU,(Oz T).mono (by decide),T.vP,.nil⟩
def JSt {K:W.Frag}{mg:Str→Option Value}{A:cJ} (T:Txt K mg A) {P:Program}{w:World}{base:Heap}{Pt:Addr}:cM P w K mg base bW 4 A.aj "stop_with":=⟨_,_,_,Lr A Pt,[],[],T.au,T.mR,(OD T).mono (by decide),T.o9,.nil⟩
def Qj (A:cJ) (Pt:Addr):Sp:=fun vs H Q _=>∃ H0 c S bk g s m z,vs=[.ref g,.str z,.str ‹""›]∧j6 A H0 c S bk Pt g H s m∧s.ov=false∧fU S z∧s.l.length≤100∧s.L.length≤100 ∧
 (∀ b,bk z=some b→∀ H',j6 A H0 c S bk Pt g H' ⟨s.l++[z],s.L++[Fq z b],false⟩ m→Q .non H')∧(bk z=none→∀ H',j6 A H0 c S bk Pt g H' ⟨s.l,s.L++[iR ‹"open"› z],true⟩ m→Q .non H')
def W0 (A:cJ) (Pt:Addr):Sp:=fun vs H Q _=>∃ H0 c S bk g s m x r,vs=[.ref g,x,.str ‹""›]∧j6 A H0 c S bk Pt g H s m∧s.ov=false∧Fl A H0 x r∧r.Ak=true∧(∀ y,r.sg=some y→fU S y.n)∧s.L.length≤100 ∧
 ∀ H',j6 A H0 c S bk Pt g H' (dm bk s r) m→Q .non H'
def Qk (A:cJ) (Pt:Addr):Sp:=fun vs H Q _=>∃ H0 c S bk g s m x sh,vs=[.ref g,x,.str ‹""›]∧j6 A H0 c S bk Pt g H s m∧Oi A (fJ S) H0 x sh∧sh∈S∧s.l.length≤50∧s.L.length≤50 ∧
 ∀ H',j6 A H0 c S bk Pt g H' (aM bk s sh.2.1) m→Q .non H'
section
variable {P:Program}{w:World}{K:W.Frag}{mg:Str→Option Value}{base:Heap}{A:cJ}{Pt:Addr}
theorem R4 (T:Txt K mg A):bz P w K mg base bW 5 A.gO A.gP ["self","question","thing"] (Qj A Pt):=by
 refine T.sE.ok fQ (fun vs H Q E h=>?_) (fun cdv A0 outer s H vs Q E hr h=>?_)
 · obtain⟨H0,c,S,bk,g,s,m,z,rfl,_⟩:=h
   rfl
 obtain⟨H0,c,S,bk,g,⟨l,L,ov⟩,m,z,rfl,hG,ho,hz,hl,hL,ky,kn⟩:=h
 have ho:ov=false:=ho
 subst ho
 obtain⟨R5,e2⟩:∃ k:Nat,k=4:=⟨_,rfl⟩
 obtain⟨iu,e4⟩:∃ k:Nat,k=4:=⟨_,rfl⟩
 refine⟨_,(zE (zU (i:=3) fQ.nd rfl ‹0› (lA (xK hr) (zK (pv 0) rfl) (pv 1) (fun _ _=>rfl)))
     (zE (zU (i:=4) fQ.nd rfl ‹0› (uY (xK hr) (zK (pv 0) rfl) (yN (zA (pv 1) (zA (pv 2) zD))) ⟨rfl,rfl,rfl,rfl⟩))
     (zF (yH (yJ (zW (CX:=bW) (k:=4) ‹hr› zN (pv 3) (zA (pv 4) zD))) (zE (zR (xH PySem.F.plainAttrs_list PySem.F.slot_list_append PySem.F.type_list_append zY (zK (pv 0) rfl) (zA (yN (zA zS (zA (pv 1) (zA (pv 2) (zA (pv 4) zD))))) zD)))
     (zF (zR (zW (CX:=bW) (k:=R5) ‹hr› zN (pv 0) (zA (pv 1) (zA (pv 2) (zA (zW (CX:=bW) (k:=4) ‹hr› zN (pv 3) (zA (pv 4) zD)) zD))))))) (zF (zR (zW (CX:=bW) (k:=iu) ‹hr› zN (pv 0) (zA (yN (zA zS (zA (pv 1) (zA (pv 2) zD)))) zD)))))))),?_⟩
 subst e2 e4
 obtain⟨kvs,k1,k2⟩:=hG.cst.kd
 obtain⟨kp,kdx,k3,k4⟩:=k2 z hz
 obtain⟨b,b1,b2⟩:=hG.cst.bk
 obtain⟨ts,t1,t2⟩:=hG.lg
 have tl:=zL t2
 have hL:L.length≤100:=hL
 have tl:ts.length=L.length:=tl
 refine⟨_,rfl,g,_,c.dx,gF c false,_,rfl,hG.go,T.au,T.fP,rfl,_,rfl,c.kd,_,rfl,(by rw [← k3];exact fX.k (k:=.inr z) (hG.same _ _ k1)),?_⟩
 refine⟨_,rfl,g,_,c.dx,gF c false,_,rfl,hG.go,T.au,T.kI,rfl,c.bk,rfl,.inr ⟨b,.inl (hG.same _ _ b1)⟩,_,rfl,_,rfl,(by show 2≤sizeLine;decide),fun t ht=>?_⟩
 have s1:=zH ht (.tup [.str z,.str ‹""›])
 have G1:=hG.mono s1
 refine⟨_,fX.t (k:=keyOf z) (G1.same _ _ b1) zB,?_⟩
 have hv:(bR b (keyOf z)).getD .non=bv (bk z):=b2 z
 dsimp only [bB,List.set_cons_succ,List.set_cons_zero]
 rw [hv]
 have hk:=G1.same _ _ k4
 refine⟨_,rfl,kp,_,kdx,_,JF T,rfl,hk,rfl,_,rfl,_,bk z,rfl,_,rfl,?_⟩
 have Qi:=s1 _ _ t1
 cases hb:bk z with
 | some v =>
   refine bU ?_
   refine⟨_,rfl,g,_,c.dx,gF c false,_,rfl,G1.go,T.au,T.cL,rfl,.inl ⟨rfl,_,bQ.of Qi⟩,_,rfl,_,rfl,_,rfl,(by show 4≤sizeLine;decide),fun t' ht'=>?_⟩
   have s2:=zH ht' (.tup [.str ‹"ask"›,.str z,.str ‹""›,.bl v])
   refine⟨c.lg,_,_,rfl,rfl,s2 _ _ Qi,zP (m:=1000000) (by omega),?_⟩
   have G2:=(G1.mono s2).app (s2 _ _ Qi) (e:=Fq z v) (t:=t') zB
   refine⟨_,rfl,g,_,c.dx,gF c false,JN T (Pt:=Pt),rfl,G2.go,rfl,_,rfl,_,rfl,_,rfl,kp,_,kdx,_,JK T,rfl,G2.same _ _ k4,rfl,_,rfl,_,v,rfl,?_⟩
   exact⟨H0,c,S,bk,g,_,m,z,v,rfl,G2,hb,Nat.le_trans hl (by decide),fun H' G'=>ky v hb H' G'⟩
 | none =>
   refine bN ?_
   refine⟨_,rfl,g,_,c.dx,gF c false,JSt T (Pt:=Pt),rfl,G1.go,rfl,_,rfl,_,rfl,(by show 3≤sizeLine;decide),fun t' ht'=>?_⟩
   have s2:=zH ht' (.tup [.str ‹"open"›,.str z,.str ‹""›])
   exact⟨H0,c,S,bk,g,_,m,t',iR ‹"open"› z,rfl,G1.mono s2,zB,Nat.le_trans hL (by decide),fun H' G'=>kn hb H' G'⟩
def JPu (T:Txt K mg A):cM P w K mg base bW 5 A.aj "put":=⟨_,_,_,Qj A Pt,[],[],T.au,T.uw,R4 T,T.sI,.nil⟩
variable (B:BMain mg base) {c0:Addr} (hc:A.aF.code=.ref c0) (hh:W.codeHdIn K c0 Pt=true)
include B hc hh
theorem W2 (T:Txt K mg A):bz P w K mg base bW 9 A.dJ A.dM ["self","check","thing"] (W0 A Pt):=by
 refine T.nD.ok fY (fun vs H Q E h=>?_) (fun cdv A0 outer s H vs Q E hr h=>?_)
 · obtain⟨H0,c,S,bk,g,s,m,x,r,rfl,_⟩:=h
   rfl
 obtain⟨H0,c,S,bk,g,⟨l,L,ov⟩,m,x,r,rfl,hG,ho,hx,hck,hsg,hL,k⟩:=h
 have ho:ov=false:=ho
 subst ho
 obtain⟨rB,e1⟩:∃ k:Nat,k=8:=⟨_,rfl⟩
 obtain⟨iu,e2⟩:∃ k:Nat,k=4:=⟨_,rfl⟩
 refine⟨_,(zE (zU (i:=3) fY.nd rfl ‹0› (zW (CX:=bW) (k:=rB) ‹hr› zN (pv 0) (zA (zK (pv 1) rfl) (zA (pv 2) zD))))
     (zE (yH (yJ (zK (pv 0) rfl)) (zF Gd) zV)
     (zF (yH (PW.pt (rE (yJ (zK (pv 1) rfl)) (oU (iw (yJ (pv 3)))))) (zF (zR (zW (CX:=bW) (k:=iu) ‹hr› zN (pv 0) (zA (yN (zA zS (zA (zK (pv 1) rfl) (zA (pv 2) zD)))) zD)))) (zF (zR (xH PySem.F.plainAttrs_list PySem.F.slot_list_append PySem.F.type_list_append zY (zK (pv 0) rfl) (zA (yN (zA (qw (yJ (pv 3)) zS zS) (zA (zK (pv 1) rfl) (zA (pv 2) zD)))) zD)))))))),?_⟩
 subst e1 e2
 obtain⟨a,dx,y,rfl,hy,hR⟩:=hx
 have ha:H0 a=some (oCk A dx (.str r.nm) y (.bl r.firm)):=by
   rcases hR with ⟨_,h⟩ | ⟨h,_⟩
   · exact h
   · rw [hck] at h;cases h
 obtain⟨kvs,k1,k2⟩:=hG.cst.kd
 refine⟨_,rfl,g,_,c.dx,gF c false,JSo T B hc hh,rfl,hG.go,rfl,_,rfl,a,_,dx,_,_,rfl,hG.same _ _ ha,T.fO,T.pK,rfl,_,rfl,?_⟩
 refine⟨g,y,c,false,S,bk,l,kvs,r.sg,rfl,hG.same _ _ hG.cst.tb,hG.rk,hG.same _ _ k1,k2.kq (.of hG.same),hy.kq (.of hG.same),hsg,fun H1 s1=>?_⟩
 have G1:=hG.mono s1
 refine⟨_,rfl,g,_,c.dx,gF c false,_,rfl,G1.go,T.au,T.bA,rfl,_,rfl,bN ?_⟩
 refine⟨_,rfl,a,_,dx,_,_,rfl,G1.same _ _ ha,T.fO,T.pL,rfl,_,rfl,?_⟩
 have hL:L.length≤100:=hL
 obtain⟨ts,t1,t2⟩:=G1.lg
 have tl:ts.length=L.length:=zL t2
 have fin:∀ (wd:Str),dm bk ⟨l,L,false⟩ r=⟨l,L++[iR wd r.nm],false⟩→∀ H',j6 A H0 c S bk Pt g H' ⟨l,L++[iR wd r.nm],false⟩ m→Q .non H':=fun wd e H' G'=>k H' (by rw [e];exact G')
 have st:dm bk ⟨l,L,false⟩ r=if hold bk l r.sg=true then ⟨l,L++[iR ‹"pass"› r.nm],false⟩ else if r.firm=true then ⟨l,L++[iR ‹"held"› r.nm],true⟩ else ⟨l,L++[iR ‹"warn"› r.nm],false⟩:=by
   unfold dm
   rw [if_neg (fun z=>by cases (show false=true from z)),if_pos hck]
 cases hfi:r.firm with
 | true =>
   rw [hfi] at st
   refine bU ?_
   cases Dd:hold bk l r.sg with
   | true =>
     rw [Dd] at st
     refine⟨_,rfl,_,rfl,bN ?_⟩
     refine⟨_,rfl,g,_,c.dx,gF c false,_,rfl,G1.go,T.au,T.cL,rfl,.inl ⟨rfl,_,bQ.of t1⟩,_,rfl,_,rfl,bU ⟨_,rfl,a,_,dx,_,_,rfl,G1.same _ _ ha,T.fO,T.eV,rfl,_,rfl,(by show 3≤sizeLine;decide),fun t' ht'=>?_⟩⟩
     have s2:=zH ht' (.tup [.str ‹"pass"›,.str r.nm,.str ‹""›])
     refine⟨c.lg,_,_,rfl,rfl,s2 _ _ t1,zP (m:=1000000) (by omega),?_⟩
     exact fin _ st _ ((G1.mono s2).app (s2 _ _ t1) (e:=iR ‹"pass"› r.nm) (t:=t') zB)
   | false =>
     rw [Dd] at st
     refine⟨_,rfl,_,rfl,bU ?_⟩
     refine⟨_,rfl,g,_,c.dx,gF c false,JSt T (Pt:=Pt),rfl,G1.go,rfl,_,rfl,a,_,dx,_,_,rfl,G1.same _ _ ha,T.fO,T.eV,rfl,_,rfl,(by show 3≤sizeLine;decide),fun t' ht'=>?_⟩
     have s2:=zH ht' (.tup [.str ‹"held"›,.str r.nm,.str ‹""›])
     exact⟨H0,c,S,bk,g,_,m,t',iR ‹"held"› r.nm,rfl,G1.mono s2,zB,Nat.le_trans hL (by decide),fun H' G'=>k H' (by rw [st];exact G')⟩
 | false =>
   rw [hfi] at st
   refine bN (bN ?_)
   refine⟨_,rfl,g,_,c.dx,gF c false,_,rfl,G1.go,T.au,T.cL,rfl,.inl ⟨rfl,_,bQ.of t1⟩,_,rfl,_,rfl,?_⟩
   cases Dd:hold bk l r.sg with
   | true =>
     rw [Dd] at st
     refine bU ⟨_,rfl,a,_,dx,_,_,rfl,G1.same _ _ ha,T.fO,T.eV,rfl,_,rfl,(by show 3≤sizeLine;decide),fun t' ht'=>?_⟩
     have s2:=zH ht' (.tup [.str ‹"pass"›,.str r.nm,.str ‹""›])
     refine⟨c.lg,_,_,rfl,rfl,s2 _ _ t1,zP (m:=1000000) (by omega),?_⟩
     exact fin _ st _ ((G1.mono s2).app (s2 _ _ t1) (e:=iR ‹"pass"› r.nm) (t:=t') zB)
   | false =>
     rw [Dd] at st
     refine bN ⟨_,rfl,a,_,dx,_,_,rfl,G1.same _ _ ha,T.fO,T.eV,rfl,_,rfl,(by show 3≤sizeLine;decide),fun t' ht'=>?_⟩
     have s2:=zH ht' (.tup [.str ‹"warn"›,.str r.nm,.str ‹""›])
     refine⟨c.lg,_,_,rfl,rfl,s2 _ _ t1,zP (m:=1000000) (by omega),?_⟩
     exact fin _ st _ ((G1.mono s2).app (s2 _ _ t1) (e:=iR ‹"warn"› r.nm) (t:=t') zB)
def JTk (T:Txt K mg A):cM P w K mg base bW 9 A.aj "take_check":=⟨_,_,_,W0 A Pt,[],[],T.au,T.mz,W2 B hc hh T,T.nF,.nil⟩
theorem R6 (T:Txt K mg A):bz P w K mg base bW 10 A.dN A.dO ["self","sheet","thing"] (Qk A Pt):=by
 refine T.nG.ok fZ (fun vs H Q E h=>?_) (fun cdv A0 outer s H vs Q E hr h=>?_)
 · obtain⟨H0,c,S,bk,g,s,m,x,sh,rfl,_⟩:=h
   rfl
 obtain⟨H0,c,S,bk,g,s,m,x,sh,rfl,hG,hx,hsh,hl,hL,k⟩:=h
 obtain⟨rB,e1⟩:∃ k:Nat,k=8:=⟨_,rfl⟩
 obtain⟨k_put,e2⟩:∃ k:Nat,k=5:=⟨_,rfl⟩
 obtain⟨Ao,e3⟩:∃ k:Nat,k=9:=⟨_,rfl⟩
 refine⟨_,(zF (yP PassesOwn.never rfl (yZ (zK (pv 1) rfl)) (zQ (i:=3) fZ.nd rfl ‹0›) (zE (yH (yJ (zK (pv 0) rfl)) (zF Gd) zV)
     (zF (yH (iw (yJ (yI ig (by rfl) T.cB Bt.isinstance (zA (pv 3) (zA (Bs rfl T.KN) zD))))) (zF (zR (zW (CX:=bW) (k:=Ao) ‹hr› zN (pv 0) (zA (pv 3) (zA (pv 2) zD))))) (zF (yH (yJ (zW (CX:=bW) (k:=rB) ‹hr› zN (pv 0) (zA (zK (pv 3) rfl) (zA (pv 2) zD)))) (zF (zR (zW (CX:=bW) (k:=k_put) ‹hr› zN (pv 0) (zA (zK (pv 3) rfl) (zA (pv 2) zD))))) zV))))))),?_⟩
 subst e1 e2 e3
 obtain⟨sa,Im,r1,r2,rs,ws,rfl,a1,a2,a3,a4,a5⟩:=hx
 refine⟨_,rfl,sa,_,Im,_,_,rfl,hG.same _ _ a1,T.dF,T.gY,rfl,r1,rfl,⟨rs,bQ.of (hG.same _ _ a2)⟩,?_⟩
 refine yY (xs:=rs) (fun j σ H'=>∃ v,σ=[some (.ref g),some (.ref sa),some (.str ‹""›),v]∧j6 A H0 c S bk Pt g H' (aM bk s (sh.2.1.take j)) m) ⟨_,rfl,hG⟩ (fun j σ H2 hj hw=>?_) (fun j x σ H2 hx2 hw=>?_) (fun σ H2 hw=>?_)
 · obtain⟨v,rfl,G⟩:=hw
   exact bQ.of (G.same _ _ a2)
 · obtain⟨v,rfl,G⟩:=hw
   obtain⟨r,hr,hR⟩:=yC a4 hx2
   have hst:=xF hr
   have hrow:aM bk s (sh.2.1.take (j+1))=dm bk (aM bk s (sh.2.1.take j)) r:=by rw [hst,ye]
   have hsp:sh.2.1=sh.2.1.take j++sh.2.1.drop j:=(List.take_append_drop _ _).symm
   have Lw:=rn bk s (sh.2.1.take j)
   have h4:(sh.2.1.take j).length≤4:=Nat.le_trans (by rw [List.length_take];exact Nat.min_le_right _ _) (hG.cst.gs.rows sh hsh)
   have rm:r∈sh.2.1:=List.mem_of_getElem? hr
   have hsg:∀ y,r.sg=some y→fU S y.n:=hG.cst.gs.sgR sh hsh r rm
   generalize hs2:aM bk s (sh.2.1.take j)=s2 at G hrow Lw
   obtain⟨l2,Aq,ov2⟩:=s2
   refine⟨_,rfl,g,_,c.dx,gF c ov2,_,rfl,G.go,T.au,T.bA,rfl,_,rfl,?_⟩
   cases ov2 with
   | true =>
     refine bU (k _ ?_)
     have e:aM bk s sh.2.1=⟨l2,Aq,true⟩:=by
       rw [hsp]
       unfold aM
       rw [List.foldl_append]
       show aM bk (aM bk s (sh.2.1.take j)) _=_
       rw [hs2]
       exact Am rfl _
     rw [e];exact G
   | false =>
     refine bN ?_
     obtain⟨ra,HW,y,rfl,hy,hRR⟩:=id hR
     rcases hRR with ⟨ck,b1⟩ | ⟨ck,kp,dk,b1,b2⟩
     · refine⟨_,rfl,_,_,_,_,rfl,rfl,.old (T.vW H2 ra HW _ (G.same _ _ b1)),T.my,_,rfl,bU ?_⟩
       refine⟨_,rfl,g,_,c.dx,gF c false,JTk B hc hh T,rfl,G.go,rfl,_,rfl,_,rfl,?_⟩
       exact⟨H0,c,S,bk,g,_,m,_,r,rfl,G,rfl,hR,ck,hsg,by show Aq.length≤100;have:=Lw.1;dsimp only at this;omega,fun H' G'=>⟨_,rfl,by rw [hrow];exact G'⟩⟩
     · refine⟨_,rfl,_,_,_,_,rfl,rfl,.old (T.Fi H2 ra HW _ (G.same _ _ b1)),T.qj,_,rfl,bN ?_⟩
       obtain⟨kvs,k1,k2⟩:=G.cst.kd
       refine⟨_,rfl,g,_,c.dx,gF c false,JSo T B hc hh,rfl,G.go,rfl,_,rfl,ra,_,HW,_,_,rfl,G.same _ _ b1,T.oh,T.tW,rfl,_,rfl,?_⟩
       refine⟨g,y,c,false,S,bk,l2,kvs,r.sg,rfl,G.same _ _ G.cst.tb,G.rk,G.same _ _ k1,k2.kq (.of G.same),hy.kq (.of G.same),hsg,fun H3 s3=>?_⟩
       have G3:=G.mono s3
       refine⟨_,rfl,?_⟩
       have st:dm bk ⟨l2,Aq,false⟩ r=if hold bk l2 r.sg=true then (match bk r.nm with | none=>⟨l2,Aq++[iR ‹"open"› r.nm],true⟩ | some b=>⟨l2++[r.nm],Aq++[Fq r.nm b],false⟩) else ⟨l2,Aq,false⟩:=by
         unfold dm
         rw [if_neg (fun z=>by cases (show false=true from z)),if_neg (by rw [ck];decide)]
         all_goals (cases bk r.nm <;> rfl)
       cases Dd:hold bk l2 r.sg with
       | false =>
         rw [Dd] at st
         exact bN ⟨_,rfl,by rw [hrow,st];exact G3⟩
       | true =>
         rw [Dd] at st
         refine bU ?_
         refine⟨_,rfl,g,_,c.dx,gF c false,JPu T (Pt:=Pt),rfl,G3.go,rfl,_,rfl,ra,_,HW,_,_,rfl,G3.same _ _ b1,T.oh,T.jT,rfl,_,rfl,?_⟩
         refine⟨H0,c,S,bk,g,_,m,r.nm,rfl,G3,rfl,⟨sh,hsh,r,rm,ck,rfl⟩,by show l2.length≤100;have:=Lw.2;dsimp only at this;omega,by show Aq.length≤100;have:=Lw.1;dsimp only at this;omega,fun b hb H' G'=>⟨_,rfl,?_⟩,fun hb H' G'=>⟨_,rfl,?_⟩⟩
         · rw [hrow,st,hb];exact G'
         · rw [hrow,st,hb];exact G'
 · obtain⟨v,rfl,G⟩:=hw
   rw [zL a4,List.take_length] at G
   exact k _ G
def JTr (T:Txt K mg A):cM P w K mg base bW 10 A.aj "go_through":=⟨_,_,_,Qk A Pt,[],[],T.au,T.mC,R6 B hc hh T,T.nH,.nil⟩
end
def je (bk:Bk) (l:List Str) (ws:List Wy):List Nat:=(ws.filter fun v=>hold bk l v.2).map (·.1)
def nxt (bk:Bk) (s:Gs) (ws:List Wy) (i:Nat):Nat:=match je bk s.l ws with
 | []=>i+1
 | a::_=>a
inductive Fin (bk:Bk) (S:List kW):Nat→Gs→List (List V)→Prop
 | over {i:Nat}{s:Gs}:s.ov=true→Fin bk S i s s.L
 | done {i:Nat}{s:Gs}:s.ov=false→S.length≤i→Fin bk S i s (s.L++[Ow])
 | step {i:Nat}{s:Gs}{sh:kW}{Lf:List (List V)}:s.ov=false→S[i]? = some sh→Fin bk S (nxt bk (aM bk s sh.2.1) sh.2.2 i) (aM bk s sh.2.1) Lf→Fin bk S i s Lf
theorem OJ {bk:Bk}{l:List Str}{ws:List Wy}{a:Nat}{r:List Nat} (h:je bk l ws=a::r):∃ v∈ws,v.1=a:=by
 have:a∈je bk l ws:=by rw [h];exact List.mem_cons_self
 obtain⟨v,hv,e⟩:=List.mem_map.mp this
 exact⟨v,(List.mem_filter.mp hv).1,e⟩
theorem Fv {bk:Bk}{S:List kW} (hG:GS S) {i:Nat}{sh:kW} (hs:S[i]? = some sh) (s:Gs):i<nxt bk s sh.2.2 i∧nxt bk s sh.2.2 i≤S.length:=by
 have hi:=(List.getElem?_eq_some_iff.mp hs).1
 unfold nxt
 cases h:je bk s.l sh.2.2 with
 | nil=>exact⟨Nat.lt_succ_self _,hi⟩
 | cons a r =>
   obtain⟨v,hv,rfl⟩:=OJ h
   exact hG.Ws i sh hs v hv
theorem R7 {bk:Bk}{S:List kW} (hG:GS S):∀ (n i:Nat) (s:Gs),S.length≤i+n→∃ Lf,Fin bk S i s Lf:=by
 intro n
 induction n with
 | zero =>
   intro i s h
   cases ho:s.ov with
   | true=>exact⟨_,.over ho⟩
   | false=>exact⟨_,.done ho (by omega)⟩
 | succ n ih =>
   intro i s h
   cases ho:s.ov with
   | true=>exact⟨_,.over ho⟩
   | false =>
     cases hs:S[i]? with
     | none=>exact⟨_,.done ho (List.getElem?_eq_none_iff.mp hs)⟩
     | some sh =>
       have hn:=Fv (bk:=bk) hG hs (aM bk s sh.2.1)
       obtain⟨Lf,hF⟩:=ih (nxt bk (aM bk s sh.2.1) sh.2.2 i) (aM bk s sh.2.1) (by omega)
       exact⟨Lf,.step ho hs hF⟩
def Ql (A:cJ) (Pt:Addr):Sp:=fun vs H Q _=>∃ H0 c S bk g s m x sh,vs=[.ref g,x]∧j6 A H0 c S bk Pt g H s m∧Oi A (fJ S) H0 x sh∧sh∈S ∧
 ∀ d ts H',H d=none→aD H H'→H' d=some (.lst (ts.map V.str))→Paired (fun (t:Str) (a:Nat)=>(fJ S)[a]? = some t) ts (if s.ov=true then [] else je bk s.l sh.2.2)→Q (.ref d) H'
def W3 (A:cJ) (Pt:Addr):Sp:=fun vs H Q _=>∃ H0 c S bk g s m,∃ i:Nat,∃ sh:kW,vs=[.ref g,.int (i:Nat)]∧j6 A H0 c S bk Pt g H s m∧S[i]? = some sh∧m≤100 ∧
 ∀ H',j6 A H0 c S bk Pt g H' s (m+1)→Q (.int ((if s.ov=true then i+1 else nxt bk s sh.2.2 i:Nat):Int)) H'
def Qm (A:cJ) (Pt:Addr):Sp:=fun vs H Q _=>∃ H0 c S bk g s m x sh,vs=[.ref g,x]∧j6 A H0 c S bk Pt g H s m∧Oi A (fJ S) H0 x sh∧∀ d H',H d=none→aD H H'→H' d=some (.lst [.str ‹""›])→Q (.ref d) H'
theorem R8 {ws:List Str}{t:Str}{j:Nat} (hd:ws.Nodup) (h:ws[j]? = some t):PX (V.str t) (ws.map V.str) j:=by
 refine⟨.str t,by rw [List.getElem?_map,h];rfl,BJ rfl,fun m z hm hz=>?_⟩
 obtain⟨y',hy',rfl⟩:=uK hz
 show (y' == t)=false
 rw [beq_eq_false_iff_ne]
 intro e
 subst e
 obtain⟨l1,e1⟩:=List.getElem?_eq_some_iff.mp h
 obtain⟨l2,e2⟩:=List.getElem?_eq_some_iff.mp hy'
 exact (List.pairwise_iff_getElem.mp hd) m j l2 l1 hm (e2.trans e1.symm)
theorem sX (ws:List Str):(ws.map V.str).all dD=true:=by rw [List.all_map,List.all_eq_true];intro _ _;rfl
section
variable {P:Program}{w:World}{K:W.Frag}{mg:Str→Option Value}{base:Heap}{A:cJ}{Pt:Addr}
theorem R9 (T:Txt K mg A):bz P w K mg base bW 1 A.du A.dw ["self","sheet"] (Qm A Pt):=by
 refine T.lX.ok kJ (fun vs H Q E h=>?_) (fun cdv A0 outer s H vs Q E hr h=>?_)
 · obtain⟨H0,c,S,bk,g,s,m,x,sh,rfl,_⟩:=h
   rfl
 obtain⟨H0,c,S,bk,g,s,m,x,sh,rfl,hG,hx,k⟩:=h
 refine⟨_,(zE (yH (zZ rF (zK (pv 1) rfl) jX (yE _)) (zF (zO (yR (zA (zK (pv 0) rfl) zD)))) zV)
     (zF (zO (qw (zZ (Rx (xK hr)) (zK (pv 1) rfl) (zK (pv 0) rfl) (by rfl)) (gh xN (by rfl) T.sS Bt.list (zA (lA (xK hr) (zK (pv 0) rfl) (yN (zA (zK (pv 1) rfl) (zA (zK (pv 0) rfl) zD))) (fun _ _=>rfl)) zD)) (yR zD))))),?_⟩
 obtain⟨sa,Im,r1,r2,rs,ws,rfl,a1,a2,a3,a4,a5⟩:=hx
 refine⟨_,rfl,sa,_,Im,_,_,rfl,hG.same _ _ a1,T.dF,T.j5,rfl,rfl,_,rfl,bU ?_⟩
 refine⟨_,rfl,g,_,c.dx,gF c s.ov,_,rfl,hG.go,T.au,T.dG,rfl,(by show 1≤sizeLine;decide),fun d hd=>?_⟩
 exact k d _ hd (zH hd _) zB
def JTh (T:Txt K mg A):cM P w K mg base bW 5 A.aj "things_of":=⟨_,_,_,Qm A Pt,[],[],T.au,T.mQ,(R9 T).mono (by decide),T.lY,.nil⟩
variable (B:BMain mg base) {c0:Addr} (hc:A.aF.code=.ref c0) (hh:W.codeHdIn K c0 Pt=true)
include B hc hh
theorem Sd (T:Txt K mg A):bz P w K mg base bW 9 A.dR A.dU ["self","sheet"] (Ql A Pt):=by
 refine T.nJ.ok cI (fun vs H Q E h=>?_) (fun cdv A0 outer s H vs Q E hr h=>?_)
 · obtain⟨H0,c,S,bk,g,s,m,x,sh,rfl,_⟩:=h
   rfl
 obtain⟨H0,c,S,bk,g,s,m,x,sh,rfl,hG,hx,hsh,k⟩:=h
 obtain⟨rB,e1⟩:∃ k:Nat,k=8:=⟨_,rfl⟩
 refine⟨_,(zE (zU (i:=2) cI.nd rfl ‹0› (yR zD))
     (zE (yP PassesOwn.never rfl (yZ (zK (pv 1) rfl)) (kY rfl (yA (zQ (i:=3) cI.nd rfl ‹0›) (yA (zQ (i:=4) cI.nd rfl ‹0›) iW))) (zF (yH (PW.pt (rE (iw (yJ (zK (pv 0) rfl))) (oU (yJ (zW (CX:=bW) (k:=rB) ‹hr› zN (pv 0) (zA (pv 4) (zA (zK (pv 0) rfl) zD))))))) (zF (zR (xH PySem.F.plainAttrs_list PySem.F.slot_list_append PySem.F.type_list_append zY (pv 2) (zA (pv 3) zD)))) zV)))
     (zF (zO (pv 2))))),?_⟩
 subst e1
 obtain⟨sa,Im,r1,r2,rs,ws,rfl,a1,a2,a3,a4,a5⟩:=hx
 refine⟨(by show 0≤sizeLine;decide),fun d hd=>?_⟩
 have s1:=zH hd (.lst [])
 have lw:=zL a5
 have Uw:=hG.cst.gs.ways sh hsh
 refine⟨_,rfl,sa,_,Im,_,_,rfl,s1 _ _ (hG.same _ _ a1),T.dF,T.pM,rfl,r2,rfl,⟨ws,bQ.of (s1 _ _ (hG.same _ _ a3))⟩,?_⟩
 refine yY (xs:=ws) (fun j σ H'=>∃ ts v y,σ=[some (.ref g),some (.ref sa),some (.ref d),v,y]∧aD H H'∧H' d=some (.lst (ts.map V.str))∧Paired (fun (t:Str) (a:Nat)=>(fJ S)[a]? = some t) ts (if s.ov=true then [] else je bk s.l (sh.2.2.take j))∧ts.length≤j) ⟨[],_,_,rfl,s1,zB,(by rw [List.take_zero];cases s.ov <;> exact .nil),Nat.le_refl _⟩ (fun j σ H2 hj hw=>?_) (fun j x σ H2 hx2 hw=>?_) (fun σ H2 hw=>?_)
 · obtain⟨ts,v,y,rfl,f,_⟩:=hw
   exact bQ.of (f _ _ (hG.same _ _ a3))
 · obtain⟨ts,v,y,rfl,f,hd2,hp,hl⟩:=hw
   obtain⟨v1,hv1,hR⟩:=yC a5 hx2
   have hj4:j<4:=by have:=(List.getElem?_eq_some_iff.mp hv1).1;omega
   obtain⟨ta,y1,t,rfl,b1,b2,b3⟩:=hR
   have G2:=hG.mono f
   refine⟨ta,_,rfl,gf.of (G2.same _ _ b1),rfl,_,_,rfl,_,_,rfl,rfl,?_⟩
   dsimp only [bB,List.set_cons_succ,List.set_cons_zero]
   have hst:=xF hv1
   refine⟨_,rfl,g,_,c.dx,gF c s.ov,_,rfl,G2.go,T.au,T.bA,rfl,_,rfl,?_⟩
   cases ho:s.ov with
   | true =>
     rw [ho] at hp
     refine bN (bN ⟨ts,_,_,rfl,f,hd2,?_,by omega⟩)
     rw [if_pos rfl] at hp ⊢
     exact hp
   | false =>
     rw [ho,if_neg (by decide)] at hp
     refine bU ?_
     obtain⟨kvs,k1,k2⟩:=G2.cst.kd
     refine⟨_,rfl,g,_,c.dx,gF c s.ov,JSo T B hc hh,rfl,G2.go,rfl,_,rfl,_,rfl,g,_,c.dx,gF c s.ov,_,rfl,G2.go,T.au,T.dG,rfl,?_⟩
     refine⟨g,y1,c,s.ov,S,bk,s.l,kvs,v1.2,rfl,G2.same _ _ G2.cst.tb,G2.rk,G2.same _ _ k1,k2.kq (.of G2.same),b3.kq (.of G2.same),G2.cst.gs.sgW sh hsh v1 (List.mem_of_getElem? hv1),fun H3 s3=>?_⟩
     have el:je bk s.l (sh.2.2.take (j+1))=je bk s.l (sh.2.2.take j)++(if hold bk s.l v1.2=true then [v1.1] else []):=by
       unfold je
       rw [hst,List.filter_append,List.map_append]
       congr 1
       rw [List.filter_cons]
       cases hold bk s.l v1.2 <;> rfl
     refine⟨_,rfl,?_⟩
     cases Dd:hold bk s.l v1.2 with
     | true =>
       rw [Dd,if_pos rfl] at el
       refine bU ⟨_,rfl,.inl ⟨rfl,_,bQ.of (s3 _ _ hd2)⟩,_,rfl,d,_,_,rfl,rfl,s3 _ _ hd2,zP (m:=1000) (by rw [List.length_map];omega),?_⟩
       refine⟨ts++[t],_,_,rfl,rA (f.trans s3) hd _,by rw [zB,List.map_append];rfl,?_,by rw [List.length_append];exact Nat.add_le_add_right hl 1⟩
       rw [if_neg (by decide),el]
       exact yO hp (.cons b2 .nil)
     | false =>
       rw [Dd,if_neg (by decide),List.append_nil] at el
       refine bN ⟨ts,_,_,rfl,f.trans s3,s3 _ _ hd2,?_,by omega⟩
       rw [if_neg (by decide),el]
       exact hp
 · obtain⟨ts,v,y,rfl,f,hd2,hp,hl⟩:=hw
   rw [lw,List.take_length] at hp
   exact⟨_,rfl,k d ts H2 hd f hd2 hp⟩
def JTg (T:Txt K mg A):cM P w K mg base bW 9 A.aj "targets_of":=⟨_,_,_,Ql A Pt,[],[],T.au,T.mD,Sd B hc hh T,T.nM,.nil⟩
end
def W4 (A:cJ) (Pt:Addr):Sp:=fun vs H Q _=>∃ H0 c S bk g Lf,vs=[.ref g]∧j6 A H0 c S bk Pt g H ⟨[],[],false⟩ 0∧Fin bk S 0 ⟨[],[],false⟩ Lf∧∀ Fw H' l ov m,aD H0 Fw→j6 A Fw c S bk Pt g H' ⟨l,Lf,ov⟩ m→Q .non H'
section
variable {P:Program}{w:World}{K:W.Frag}{mg:Str→Option Value}{base:Heap}{A:cJ}{Pt:Addr}
variable (B:BMain mg base) {c0:Addr} (hc:A.aF.code=.ref c0) (hh:W.codeHdIn K c0 Pt=true)
include B hc hh
theorem W5 (T:Txt K mg A):bz P w K mg base bW 10 A.iH A.iI ["self","place"] (W3 A Pt):=by
 refine T.um.ok dZ (fun vs H Q E h=>?_) (fun cdv A0 outer s H vs Q E hr h=>?_)
 · obtain⟨H0,c,S,bk,g,s,m,i,sh,rfl,_⟩:=h
   rfl
 obtain⟨H0,c,S,bk,g,s,m,i,sh,rfl,hG,hsh,hm,k⟩:=h
 obtain⟨Ar,e1⟩:∃ k:Nat,k=9:=⟨_,rfl⟩
 refine⟨_,(zE (zU (i:=2) dZ.nd rfl ‹0› (yX xM (zK (zK (pv 0) rfl) rfl) (pv 1) (fun _ _=>rfl)))
     (zE (zU (i:=3) dZ.nd rfl ‹0› (zW (CX:=bW) (k:=Ar) ‹hr› zN (pv 0) (zA (pv 2) zD)))
     (zE (yH (PW.pt (rE (zZ Jg (yI yM (by rfl) T.qP PySem.boot_len (zA (pv 3) zD)) zI (yE _)) (oU (iw (yJ (zK (pv 0) rfl)))))) (zF (zR (xH PySem.F.plainAttrs_list PySem.F.slot_list_append PySem.F.type_list_append zY (zK (pv 0) rfl) (zA (zK (pv 2) rfl) zD)))) zV)
     (zE (yH (zZ jj (yI yM (by rfl) T.qP PySem.boot_len (zA (pv 3) zD)) zI (yE _)) (zF (zO (zM xA (pv 1) zI))) zV)
     (zE (zU (i:=4) dZ.nd rfl ‹0› (zM yu (Bu (jf (x:="other") (M:=["self","place","sheet","targets","names"]) rfl (by rfl)) rfl (yZ (zK (zK (pv 0) rfl) rfl)) (fun _ _ _ _=>JX (by exact (zK (pv 0) rfl)) (by dsimp only [dI] <;> rfl))) (yR (zA zS zD))))
     (zF (zO (xH PySem.F.plainAttrs_list PySem.F.slot_list_index PySem.F.type_list_index Hw (pv 4) (zA (yX xM (pv 3) zI (fun _ _=>rfl)) zD))))))))),?_⟩
 subst e1
 obtain⟨dx,u,q1,q2,xs,p1,p2,p3,p4⟩:=hG.cst.pa
 obtain⟨x,hx,hS⟩:=mH p4 hsh
 have lens:=zL p4
 have hlen:=hG.cst.gs.len
 refine⟨_,rfl,g,_,c.dx,gF c s.ov,_,rfl,hG.go,T.au,T.cN,rfl,c.pa,_,dx,_,_,rfl,hG.same _ _ p1,T.eY,T.cz,rfl,_,rfl,q1,_,_,_,rfl,rfl,bQ.of (hG.same _ _ p2),zX hx,?_⟩
 refine⟨_,rfl,g,_,c.dx,gF c s.ov,JTg B hc hh T,rfl,hG.go,rfl,_,rfl,?_⟩
 refine⟨H0,c,S,bk,g,s,m,x,sh,rfl,hG,hS,List.mem_of_getElem? hsh,fun d ts H1 fd s1 hd hp=>?_⟩
 have G1:=hG.mono s1
 obtain⟨sa,Im,r1,r2,rs,ws,rfl,a1,a2,a3,a4,a5⟩:=hS
 have ml:(ts.map V.str).length=ts.length:=List.length_map ..
 dsimp only [bB,List.set_cons_succ,List.set_cons_zero]
 refine mG (fun σ H2=>∃ u,σ=[some (.ref g),some (.int (i:Nat)),some (.ref sa),some (.ref d),u]∧j6 A H0 c S bk Pt g H2 s (m+1)∧H2 d=some (.lst (ts.map V.str))) ?_ ?_
 · rintro σ H2 ⟨u,rfl,G2,hd2⟩
   refine⟨_,rfl,d,_,rfl,.inl (bQ.of hd2),rfl,_,rfl,?_⟩
   rw [ml]
   cases ts with
   | nil =>
     refine bU ⟨_,rfl,_,_,rfl,rfl,?_⟩
     have e:(if s.ov=true then i+1 else nxt bk s sh.2.2 i)=i+1:=by
       cases ho:s.ov with
       | true=>exact if_pos rfl
       | false =>
         rw [ho,if_neg (by decide)] at hp
         rw [if_neg (by decide)]
         unfold nxt
         cases hp':je bk s.l sh.2.2 with
         | nil=>rfl
         | cons a r=>rw [hp'] at hp;cases hp
     have:=k _ G2
     rw [e] at this
     exact this
   | cons t ts' =>
     have Sh:decide (V.int ((List.length (t::ts'):Nat):Int)=V.int 0)=false:=decide_eq_false fun z=>by
       have z:=V.int.inj z
       simp only [List.length_cons] at z
       omega
     refine Od Sh ?_
     have ho:s.ov=false:=by
       cases ho:s.ov with
       | false=>rfl
       | true=>rw [ho,if_pos rfl] at hp;cases hp
     rw [ho,if_neg (by decide)] at hp
     cases hle:je bk s.l sh.2.2 with
     | nil=>rw [hle] at hp;cases hp
     | cons a r =>
       rw [hle] at hp
       cases hp with
       | cons ht _ =>
         have hnx:nxt bk s sh.2.2 i=a:=by unfold nxt;rw [hle]
         refine⟨_,rfl,g,_,c.dx,gF c s.ov,_,rfl,G2.go,T.au,T.cN,rfl,c.pa,_,dx,_,_,rfl,G2.same _ _ p1,T.eY,T.cz,rfl,q1,rfl,⟨xs,bQ.of (G2.same _ _ p2)⟩,?_⟩
         refine DR (xs:=xs) (zP (m:=1000) (by omega)) (fun i zs H'=>H2=H'∧zs=((S.take i).map (·.1)).map V.str) ⟨rfl,rfl⟩ (fun i zs H' hw=>by obtain⟨rfl,_⟩:=hw;exact bQ.of (G2.same _ _ p2)) (fun j x zs H' hx' hlen' hw=>?_) (fun zs H' hl2 hw p2' hp2=>?_)
         · obtain⟨rfl,rfl⟩:=hw
           obtain⟨s2,hs2,hR2⟩:=yC p4 hx'
           obtain⟨oa,odx,o1,o2,ors,ows,rfl,c1,_⟩:=hR2
           refine⟨_,rfl,oa,_,odx,_,_,rfl,G2.same _ _ c1,T.dF,T.j4,rfl,rfl,?_⟩
           rw [xF hs2,List.map_append,List.map_append];rfl
         · obtain⟨rfl,rfl⟩:=hw
           rw [lens,List.take_length]
           have sp2:=zH hp2 (.lst ((S.map (·.1)).map V.str))
           refine⟨(by show 1≤sizeLine;decide),fun pb hpb=>?_⟩
           have sp3:=zH hpb (.lst [.str ‹"end"›])
           refine⟨p2',pb,_,_,rfl,rfl,sp3 _ _ zB,zB,zP (m:=1000) (by rw [List.length_map,List.length_map];show S.length+1≤1000;omega),fun pn hpn=>?_⟩
           have sp4:=zH hpn (.lst (((S.map (·.1)).map V.str)++[.str ‹"end"›]))
           have O1:=(sp2.trans sp3).trans sp4
           have en:((S.map (·.1)).map V.str)++[.str ‹"end"›]=(fJ S).map V.str:=by unfold fJ;rw [List.map_append];rfl
           rw [en]
           rw [en] at O1
           dsimp only [bB,List.set_cons_succ,List.set_cons_zero]
           refine⟨_,rfl,.inl ⟨rfl,_,bQ.of zB⟩,_,rfl,d,_,_,_,rfl,rfl,bQ.of (O1 _ _ hd2),zX (j:=0) rfl,?_⟩
           refine⟨pn,_,_,a,rfl,rfl,bQ.of zB,sX _,rfl,R8 hG.cst.gs.nd ht,?_⟩
           have e:(if s.ov=true then i+1 else nxt bk s sh.2.2 i)=a:=by rw [ho,if_neg (by decide)];exact hnx
           have:=k _ (G2.mono O1)
           rw [e] at this
           exact this
 · intro N hN
   refine⟨_,rfl,d,_,rfl,.inl (bQ.of hd),_,_,rfl,rfl,_,rfl,?_⟩
   have weak:j6 A H0 c S bk Pt g H1 s (m+1):=by
     obtain⟨z1,z2,z3,z4,z5,z6,z7,z8,z9,z10,⟨db,z11,z12⟩⟩:=G1
     exact⟨z1,z2,z3,z4,z5,z6,z7,z8,z9,z10,⟨db,z11,by omega⟩⟩
   refine yw (fun c1=>?_) (fun c1=>bN (hN _ _ ⟨_,rfl,weak,hd⟩))
   refine⟨_,rfl,g,_,c.dx,gF c s.ov,_,rfl,G1.go,T.au,T.bA,rfl,_,rfl,?_⟩
   cases ho:s.ov with
   | true=>exact bN (hN _ _ ⟨_,rfl,weak,hd⟩)
   | false =>
     obtain⟨db,d1,d2⟩:=G1.db
     refine bU ⟨_,rfl,g,_,c.dx,gF c s.ov,_,rfl,G1.go,T.au,T.iU,rfl,.inl ⟨rfl,_,bQ.of d1⟩,_,rfl,sa,_,Im,_,_,rfl,G1.same _ _ a1,T.dF,T.j4,rfl,c.db,_,_,rfl,rfl,d1,zP (m:=1000) (by omega),hN _ _ ⟨_,rfl,G1.dbl d1,?_⟩⟩
     obtain⟨db0,e1,_⟩:=hG.db
     rw [zG (Ne.symm (zC e1 fd))];exact hd
def JLv (T:Txt K mg A):cM P w K mg base bW 10 A.aj "leave":=⟨_,_,_,W3 A Pt,[],[],T.au,T.qT,W5 B hc hh T,T.uo,.nil⟩
end
theorem Kq.of0 {H H':Hp}{g C dx:Addr} (F:Fr [g] H H') (hg:H g=some (.ins C dx [])):Kq H H':=fun b o hb ho=>F b o hb (fW fun e=>by
 rw [e,hg] at hb;cases hb;exact ho)
abbrev gI (c:GA):List (Str × V):=[("paper",.ref c.pa),("alone",.str ‹""›),("kinds",.ref c.kd),("eaches",.ref c.ed),("together",.ref c.tg),("asked",.ref c.aq),("log",.ref c.lg),("doubles",.ref c.db),("over",.bl false)]
structure New (A:cJ) (H:Hp) (c:GA) (S:List kW) (H':Hp):Prop where
 kd:∃ kvs,H' c.kd=some (.dK kvs)∧Lh A H' kvs S
 ed:∃ kvs,H' c.ed=some (.dK kvs)∧EdR kvs S
 tg:H' c.tg=some (.dK [])
 HY:H c.aq=none
 aq:H' c.aq=some (.dK [])
 Ia:H c.lg=none
 lg:H' c.lg=some (.lst [])
 Ib:H c.db=none
 db:H' c.db=some (.lst [])
 ld:c.lg≠c.db
 ka:c.kd≠c.aq
 ea:c.ed≠c.aq
 ta:c.tg≠c.aq
def afm (A:cJ):Sp:=fun vs H Q _=>∃ g dx pa S,vs=[.ref g,.ref pa,.str ‹""›]∧H g=some (.ins A.aj dx [])∧Lg A H pa S∧GS S ∧
 ∀ (c:GA) H',c.dx=dx→c.pa=pa→Fr [g] H H'→H' g=some (.ins A.aj dx (gI c))→New A H c S H'→Q .non H'
def afn (A:cJ):Sp:=fun vs H Q _=>∃ g dx pa S bk,vs=[.ref g,.ref pa,.ref bk]∧H g=some (.ins A.aj dx [])∧Lg A H pa S∧GS S ∧
 ∀ (c:GA) H',c.pa=pa→c.bk=bk→Fr [g] H H'→H' g=some (RV A c false)→New A H c S H'→Q .non H'
section
variable {P:Program}{w:World}{K:W.Frag}{mg:Str→Option Value}{base:Heap}{A:cJ}
theorem Sq (T:Txt K mg A):bz P w K mg base bW 2 A.gJ A.gM ["self","paper","alone"] (afm A):=by
 have Fx:=CT (P:=P) (w:=w) (base:=base) T
 have De:=Al (P:=P) (w:=w) (base:=base) T
 have wk:=uF (P:=P) (w:=w) (base:=base) T
 refine T.su.ok qZ (fun vs H Q E h=>?_) (fun cdv A0 outer s H vs Q E hr h=>?_)
 · obtain⟨g,dx,pa,S,rfl,_⟩:=h
   rfl
 obtain⟨g,dx,pa,S,rfl,hg,hP,hQ,k⟩:=h
 refine⟨_,(zE (yG (pv 0) (pv 1) rfl)
     (zE (yG (pv 0) (pv 2) rfl)
     (zE (yG (pv 0) (yF Fx ‹hr› rfl T.Ek T.Ej T.Ei .nil zN (zA (pv 1) zD)) rfl)
     (zE (yG (pv 0) (yF De ‹hr› rfl T.Cj T.Ci T.Cg .nil zN (zA (pv 1) zD)) rfl)
     (zE (yG (pv 0) (yF wk ‹hr› rfl T.vN T.vM T.vL .nil zN (zA (pv 1) zD)) rfl)
     (zE (yG (pv 0) km rfl)
     (zE (yG (pv 0) (yR zD) rfl)
     (zE (yG (pv 0) (yR zD) rfl)
     (zF (yG (pv 0) mY rfl)))))))))),?_⟩
 have cl:=T.au
 have st:∀ {Ha:Hp}{o:HO},Fr [g] Ha (upd Ha g o):=fun {Ha o}=>(Fr.of (aD.refl _)).upd (List.mem_singleton.mpr rfl) o
 refine⟨_,rfl,_,rfl,g,_,dx,_,rfl,hg,cl,T.cN,by decide,?_⟩
 refine⟨_,rfl,_,rfl,g,_,dx,_,rfl,zB,cl,T.dG,(by show 1<1000;decide),?_⟩
 rw [yQ]
 refine (show (∀ H1,Fr [g] H H1→H1 g=some (.ins A.aj dx [("paper",.ref pa),("alone",.str ‹""›)])→_)→_ from fun z=>z (upd H g (.ins A.aj dx [("paper",.ref pa),("alone",.str ‹""›)])) st zB) ?_
 intro H1 F1 g1
 have F01:Fr [g] H H1:=F1
 refine⟨_,rfl,pa,S,rfl,hP.kq (Kq.of0 F01 hg),hQ,fun kd kvs H2 fk s2 hk hK=>?_⟩
 have nkd:kd≠g:=Ne.symm (zC g1 fk)
 refine⟨_,rfl,g,_,dx,_,rfl,s2 _ _ g1,cl,T.fP,(by show 2<1000;decide),?_⟩
 refine (show (∀ H3,Fr [g] H2 H3→H3 g=some (.ins A.aj dx [("paper",.ref pa),("alone",.str ‹""›),("kinds",.ref kd)])→_)→_ from fun z=>z (upd H2 g (.ins A.aj dx [("paper",.ref pa),("alone",.str ‹""›),("kinds",.ref kd)])) st zB) ?_
 intro H3 F3 g3
 have F03:Fr [g] H H3:=(F01.trans (Fr.of s2)).trans F3
 refine⟨_,rfl,pa,S,rfl,hP.kq (Kq.of0 F03 hg),hQ,fun ed Ux H4 fe s4 he hE=>?_⟩
 have ned:ed≠g:=Ne.symm (zC g3 fe)
 refine⟨_,rfl,g,_,dx,_,rfl,s4 _ _ g3,cl,T.jG,(by show 3<1000;decide),?_⟩
 refine (show (∀ H5,Fr [g] H4 H5→H5 g=some (.ins A.aj dx [("paper",.ref pa),("alone",.str ‹""›),("kinds",.ref kd),("eaches",.ref ed)])→_)→_ from fun z=>z (upd H4 g (.ins A.aj dx [("paper",.ref pa),("alone",.str ‹""›),("kinds",.ref kd),("eaches",.ref ed)])) st zB) ?_
 intro H5 F5 g5
 have F05:Fr [g] H H5:=(F03.trans (Fr.of s4)).trans F5
 refine⟨_,rfl,pa,S,rfl,hP.kq (Kq.of0 F05 hg),fun tg H6 ft s6 ht=>?_⟩
 have ntg:tg≠g:=Ne.symm (zC g5 ft)
 refine⟨_,rfl,g,_,dx,_,rfl,s6 _ _ g5,cl,T.il,(by show 4<1000;decide),?_⟩
 refine (show (∀ H7,Fr [g] H6 H7→H7 g=some (.ins A.aj dx [("paper",.ref pa),("alone",.str ‹""›),("kinds",.ref kd),("eaches",.ref ed),("together",.ref tg)])→_)→_ from fun z=>z (upd H6 g (.ins A.aj dx [("paper",.ref pa),("alone",.str ‹""›),("kinds",.ref kd),("eaches",.ref ed),("together",.ref tg)])) st zB) ?_
 intro H7 F7 g7
 intro aq ha
 have s8:=zH ha (.dK [])
 have HY:aq≠g:=Ne.symm (zC g7 ha)
 have a8:(upd H7 aq (.dK [])) aq=some (.dK []):=zB
 generalize upd H7 aq (HO.dK [])=H8 at s8 a8 ⊢
 refine⟨_,rfl,g,_,dx,_,rfl,s8 _ _ g7,cl,T.cO,(by show 5<1000;decide),?_⟩
 refine (show (∀ H9,Fr [g] H8 H9→H9 g=some (.ins A.aj dx [("paper",.ref pa),("alone",.str ‹""›),("kinds",.ref kd),("eaches",.ref ed),("together",.ref tg),("asked",.ref aq)])→_)→_ from fun z=>z (upd H8 g (.ins A.aj dx [("paper",.ref pa),("alone",.str ‹""›),("kinds",.ref kd),("eaches",.ref ed),("together",.ref tg),("asked",.ref aq)])) st zB) ?_
 intro H9 F9 g9
 refine⟨(by show 0≤sizeLine;decide),fun lg hl=>?_⟩
 have Qn:=zH hl (.lst [])
 have Ia:lg≠g:=Ne.symm (zC g9 hl)
 have l10:(upd H9 lg (.lst [])) lg=some (.lst []):=zB
 generalize upd H9 lg (HO.lst [])=H10 at Qn l10 ⊢
 refine⟨_,rfl,g,_,dx,_,rfl,Qn _ _ g9,cl,T.cL,(by show 6<1000;decide),?_⟩
 refine (show (∀ Ss,Fr [g] H10 Ss→Ss g=some (.ins A.aj dx [("paper",.ref pa),("alone",.str ‹""›),("kinds",.ref kd),("eaches",.ref ed),("together",.ref tg),("asked",.ref aq),("log",.ref lg)])→_)→_ from fun z=>z (upd H10 g (.ins A.aj dx [("paper",.ref pa),("alone",.str ‹""›),("kinds",.ref kd),("eaches",.ref ed),("together",.ref tg),("asked",.ref aq),("log",.ref lg)])) st zB) ?_
 intro Ss F11 g11
 refine⟨(by show 0≤sizeLine;decide),fun db hdb=>?_⟩
 have s12:=zH hdb (.lst [])
 have Ib:db≠g:=Ne.symm (zC g11 hdb)
 have d12:(upd Ss db (.lst [])) db=some (.lst []):=zB
 generalize upd Ss db (HO.lst [])=H12 at s12 d12 ⊢
 refine⟨_,rfl,g,_,dx,_,rfl,s12 _ _ g11,cl,T.iU,(by show 7<1000;decide),?_⟩
 refine (show (∀ Qo,Fr [g] H12 Qo→Qo g=some (.ins A.aj dx [("paper",.ref pa),("alone",.str ‹""›),("kinds",.ref kd),("eaches",.ref ed),("together",.ref tg),("asked",.ref aq),("log",.ref lg),("doubles",.ref db)])→_)→_ from fun z=>z (upd H12 g (.ins A.aj dx [("paper",.ref pa),("alone",.str ‹""›),("kinds",.ref kd),("eaches",.ref ed),("together",.ref tg),("asked",.ref aq),("log",.ref lg),("doubles",.ref db)])) st zB) ?_
 intro Qo F13 g13
 refine⟨_,rfl,g,_,dx,_,rfl,g13,cl,T.bA,(by show 8<1000;decide),?_⟩
 have F14:Fr [g] Qo (upd Qo g (.ins A.aj dx [("paper",.ref pa),("alone",.str ‹""›),("kinds",.ref kd),("eaches",.ref ed),("together",.ref tg),("asked",.ref aq),("log",.ref lg),("doubles",.ref db),("over",.bl false)])):=st
 have Lx:Fr [g] H7 (upd Qo g (.ins A.aj dx [("paper",.ref pa),("alone",.str ‹""›),("kinds",.ref kd),("eaches",.ref ed),("together",.ref tg),("asked",.ref aq),("log",.ref lg),("doubles",.ref db),("over",.bl false)])):=((((((Fr.of s8).trans F9).trans (Fr.of Qn)).trans F11).trans (Fr.of s12)).trans F13).trans F14
 have afp:=((((Fr.of s4).trans F5).trans (Fr.of s6)).trans F7).trans Lx
 have F07:Fr [g] H H7:=(F05.trans (Fr.of s6)).trans F7
 have afq:Fr [g] H9 (upd Qo g (.ins A.aj dx [("paper",.ref pa),("alone",.str ‹""›),("kinds",.ref kd),("eaches",.ref ed),("together",.ref tg),("asked",.ref aq),("log",.ref lg),("doubles",.ref db),("over",.bl false)])):=((((Fr.of Qn).trans F11).trans (Fr.of s12)).trans F13).trans F14
 have W6:Fr [g] Ss (upd Qo g (.ins A.aj dx [("paper",.ref pa),("alone",.str ‹""›),("kinds",.ref kd),("eaches",.ref ed),("together",.ref tg),("asked",.ref aq),("log",.ref lg),("doubles",.ref db),("over",.bl false)])):=((Fr.of s12).trans F13).trans F14
 have kd7:H7 kd=some (.dK kvs):=F7 _ _ (s6 _ _ (F5 _ _ (s4 _ _ (F3 _ _ hk (fW nkd))) (fW nkd))) (fW nkd)
 have ed7:H7 ed=some (.dK Ux):=F7 _ _ (s6 _ _ (F5 _ _ he (fW ned))) (fW ned)
 have tg7:H7 tg=some (.dK []):=F7 _ _ ht (fW ntg)
 have hall:=F07.trans Lx
 have lgF:Ss lg=some (.lst []):=F11 _ _ l10 (fW Ia)
 refine k ⟨dx,pa,kd,ed,tg,aq,lg,db,pa⟩ _ rfl rfl hall zB ⟨⟨kvs,Lx _ _ kd7 (fW nkd),fun z hz=>?_⟩,⟨Ux,Lx _ _ ed7 (fW ned),hE⟩,Lx _ _ tg7 (fW ntg),Ai F07 (fW HY) ha,afq _ _ (F9 _ _ a8 (fW HY)) (fW HY),Ai (F07.trans ((Fr.of s8).trans F9)) (fW Ia) hl,W6 _ _ lgF (fW Ia),Ai (((F07.trans ((Fr.of s8).trans F9)).trans (Fr.of Qn)).trans F11) (fW Ib) hdb,F14 _ _ (F13 _ _ d12 (fW Ib)) (fW Ib),zC lgF hdb,zC kd7 ha,zC ed7 ha,zC tg7 ha⟩
 obtain⟨kp,dk,k1,k2⟩:=hK z hz
 have nk:kp≠g:=yL k2 g1 (by intro z;injection z with _ _ z;cases z)
 exact⟨kp,dk,k1,afp _ _ (F3 _ _ (s2 _ _ k2) (fW nk)) (fW nk)⟩
theorem W7 (T:Txt K mg A):bz P w K mg base bW 4 A.eQ A.eU ["self","paper","book"] (afn A):=by
 have sY:=Sq (P:=P) (w:=w) (base:=base) T
 refine T.ph.ok oJ (fun vs H Q E h=>?_) (fun cdv A0 outer s H vs Q E hr h=>?_)
 · obtain⟨g,dx,pa,S,bk,rfl,_⟩:=h
   rfl
 obtain⟨g,dx,pa,S,bk,rfl,hg,hP,hQ,k⟩:=h
 refine⟨_,(zE (zR (qG T.wY sY ‹hr› rfl T.N7 T.sy zN (zA (pv 0) (zA (pv 1) (zA zS zD)))))
     (zF (yG (pv 0) (pv 2) rfl))),?_⟩
 refine⟨_,rfl,_,rfl,g,dx,pa,S,rfl,hg,hP,hQ,fun c H1 e1 e2 F1 h1 N=>?_⟩
 subst e1 e2
 refine⟨_,rfl,_,rfl,g,_,c.dx,_,rfl,h1,T.au,T.kI,(by show 9<1000;decide),?_⟩
 have F2:Fr [g] H1 (upd H1 g (RV A { c with bk:=bk } false)):=(Fr.of (aD.refl _)).upd (List.mem_singleton.mpr rfl) _
 have nn:∀ {x:Addr}{o:HO},H1 x=some o→(∀ C dx fs,o≠.ins C dx fs)→(upd H1 g (RV A { c with bk:=bk } false)) x=some o:=fun {x o} hx hn=>F2 _ _ hx (fW (yL hx h1 (hn _ _ _)))
 obtain⟨⟨kv,n1,n2⟩,⟨Ux,n3,n4⟩,n5,n6,n7,n8,n9,n10,n11,n12,n13,n14,n15⟩:=N
 refine k { c with bk:=bk } _ rfl rfl (F1.trans F2) zB ⟨⟨kv,nn n1 (fun _ _ _ z=>by cases z),fun z hz=>?_⟩,⟨Ux,nn n3 (fun _ _ _ z=>by cases z),n4⟩,nn n5 (fun _ _ _ z=>by cases z),n6,nn n7 (fun _ _ _ z=>by cases z),n8,nn n9 (fun _ _ _ z=>by cases z),n10,nn n11 (fun _ _ _ z=>by cases z),n12,n13,n14,n15⟩
 obtain⟨kp,dk,k1,k2⟩:=n2 z hz
 exact⟨kp,dk,k1,F2 _ _ k2 (fW (yL k2 h1 (by intro z;injection z with _ _ z;cases z)))⟩
end
theorem wu {bk:Bk}{S:List kW}{i:Nat}{s:Gs}{Lf:List (List V)} (h:Fin bk S i s Lf) (ho:s.ov=true):Lf=s.L:=by
 cases h with
 | over _=>rfl
 | done h _=>rw [ho] at h;cases h
 | step h _ _=>rw [ho] at h;cases h
section
variable {P:Program}{w:World}{K:W.Frag}{mg:Str→Option Value}{base:Heap}{A:cJ}{Pt:Addr}
variable (B:BMain mg base) {c0:Addr} (hc:A.aF.code=.ref c0) (hh:W.codeHdIn K c0 Pt=true)
include B hc hh
theorem W8 (T:Txt K mg A):bz P w K mg base bW 11 A.lG A.lH ["self"] (W4 A Pt):=by
 refine T.zm.ok eZ (fun vs H Q E h=>?_) (fun cdv A0 outer s H vs Q E hr h=>?_)
 · obtain⟨H0,c,S,bk,g,Lf,rfl,_⟩:=h
   rfl
 obtain⟨H0,c,S,bk,g,Lf,rfl,hG,hF,k⟩:=h
 obtain⟨Df,e1⟩:∃ k:Nat,k=5:=⟨_,rfl⟩
 obtain⟨Av,e2⟩:∃ k:Nat,k=10:=⟨_,rfl⟩
 obtain⟨O2,e3⟩:∃ k:Nat,k=10:=⟨_,rfl⟩
 obtain⟨iu,e4⟩:∃ k:Nat,k=4:=⟨_,rfl⟩
 refine⟨_,(zE (zU (i:=1) eZ.nd rfl ‹0› zI)
     (zE (xX PassesOwn.never (PW.pt (rE (iw (yJ (zK (pv 0) rfl))) (oU (zZ Gi (pv 1) (yI yM (by rfl) T.qP PySem.boot_len (zA (zK (zK (pv 0) rfl) rfl) zD)) (yE _))))) (zE (zU (i:=2) eZ.nd rfl ‹0› (yX xM (zK (zK (pv 0) rfl) rfl) (pv 1) (fun _ _=>rfl)))
     (zE (yP PassesOwn.never rfl (yZ (zW (CX:=bW) (k:=Df) ‹hr› zN (pv 0) (zA (pv 2) zD))) (zQ (i:=3) eZ.nd rfl ‹0›) (zF (zR (zW (CX:=bW) (k:=Av) ‹hr› zN (pv 0) (zA (pv 2) (zA (pv 3) zD))))))
     (zF (zU (i:=1) eZ.nd rfl ‹0› (zW (CX:=bW) (k:=O2) ‹hr› zN (pv 0) (zA (pv 1) zD)))))))
     (zF (yH (iw (yJ (zK (pv 0) rfl))) (zF (zR (zW (CX:=bW) (k:=iu) ‹hr› zN (pv 0) (zA (yN (zA zS zD)) zD)))) zV)))),?_⟩
 subst e1 e2 e3 e4
 have hS5:=hG.cst.gs.len
 have hGS:=hG.cst.gs
 refine⟨fun m σ H=>∃ Fw s n v y,∃ i:Nat,σ=[some (.ref g),some (.int (i:Nat)),v,y]∧i≤S.length∧m=S.length - i∧aD H0 Fw∧j6 A Fw c S bk Pt g H s n∧n≤i∧s.L.length≤4*i∧s.l.length≤4*i∧Fin bk S i s Lf,⟨_,H0,_,0,_,_,0,rfl,Nat.zero_le _,rfl,aD.refl _,hG,Nat.le_refl _,Nat.le_refl _,Nat.le_refl _,hF⟩,?_⟩
 rintro m σ H1 ⟨Fw,s,n,v,y,i,rfl,hi,rfl,sH,G,hn,hL,hl,F⟩
 refine⟨_,rfl,g,_,c.dx,gF c s.ov,_,rfl,G.go,T.au,T.bA,rfl,_,rfl,?_⟩
 cases ho:s.ov with
 | true =>
   refine bN (bN ?_)
   refine⟨_,rfl,g,_,c.dx,gF c s.ov,_,rfl,G.go,T.au,T.bA,rfl,_,rfl,?_⟩
   rw [ho]
   refine bN ?_
   have e:=wu F ho
   refine k _ _ s.l s.ov n sH ?_
   rw [e];exact G
 | false =>
   refine bU ?_
   obtain⟨dx,u,q1,q2,xs,p1,p2,p3,p4⟩:=G.cst.pa
   have lens:=zL p4
   refine⟨_,rfl,_,rfl,g,_,c.dx,gF c s.ov,_,rfl,G.go,T.au,T.cN,rfl,c.pa,_,dx,_,_,rfl,G.same _ _ p1,T.eY,T.cz,rfl,q1,_,rfl,.inl (bQ.of (G.same _ _ p2)),_,_,rfl,rfl,_,rfl,?_⟩
   rw [lens]
   cases F with
   | over z=>rw [ho] at z;cases z
   | done _ hle =>
     refine yw (fun c1=>?_) (fun c1=>?_)
     · have:=of_decide_eq_true c1;omega
     · refine⟨_,rfl,g,_,c.dx,gF c s.ov,_,rfl,G.go,T.au,T.bA,rfl,_,rfl,?_⟩
       rw [ho]
       refine bU ?_
       refine⟨_,rfl,g,_,c.dx,gF c s.ov,JSt T (Pt:=Pt),rfl,G.go,rfl,(by show 1≤sizeLine;decide),fun t ht=>?_⟩
       have s2:=zH ht (.tup Ow)
       exact⟨Fw,c,S,bk,g,s,n,t,Ow,rfl,G.mono s2,zB,by omega,fun H' G'=>k _ _ _ _ _ sH G'⟩
   | @step _ _ sh _ _ hsh F =>
     have hlt:i<S.length:=(List.getElem?_eq_some_iff.mp hsh).1
     refine yw (fun c1=>?_) (fun c1=>absurd (decide_eq_true (show (i:Int)<(S.length:Nat) by omega)) c1)
     obtain⟨x,hx,hR⟩:=mH p4 hsh
     have hmem:=List.mem_of_getElem? hsh
     have Io:=hGS.rows sh hmem
     have Lw:=rn bk s sh.2.1
     generalize hs2:aM bk s sh.2.1=s2 at F Lw
     have hnx:=Fv (bk:=bk) hGS hsh s2
     refine⟨fun σ' H'=>∃ Fw v y,σ'=[some (.ref g),some (.int ((if s2.ov=true then i+1 else nxt bk s2 sh.2.2 i:Nat):Int)),v,y]∧aD H0 Fw∧j6 A Fw c S bk Pt g H' s2 (n+1),fun σ' H' z=>?_,?_⟩
     · obtain⟨Fw,v,y,e,a1,a2⟩:=z
       have hj:i<(if s2.ov=true then i+1 else nxt bk s2 sh.2.2 i)∧(if s2.ov=true then i+1 else nxt bk s2 sh.2.2 i)≤S.length:=by
         cases s2.ov with
         | true=>rw [if_pos rfl];omega
         | false=>rw [if_neg (by decide)];exact hnx
       have W9:Fin bk S (if s2.ov=true then i+1 else nxt bk s2 sh.2.2 i) s2 Lf:=by
         cases ho2:s2.ov with
         | true=>rw [wu F ho2];exact .over ho2
         | false=>rw [if_neg (by decide)];exact F
       generalize (if s2.ov=true then i+1 else nxt bk s2 sh.2.2 i)=j at e hj W9
       exact⟨S.length - j,by omega,Fw,s2,n+1,v,y,j,e,hj.2,rfl,a1,a2,by omega,by omega,by omega,W9⟩
     refine⟨_,rfl,g,_,c.dx,gF c s.ov,_,rfl,G.go,T.au,T.cN,rfl,c.pa,_,dx,_,_,rfl,G.same _ _ p1,T.eY,T.cz,rfl,_,rfl,q1,_,_,_,rfl,rfl,bQ.of (G.same _ _ p2),zX hx,?_⟩
     refine⟨_,rfl,g,_,c.dx,gF c s.ov,JTh T (Pt:=Pt),rfl,G.go,rfl,_,rfl,?_⟩
     refine⟨Fw,c,S,bk,g,s,n,x,sh,rfl,G,hR,fun d H2 fd s2' hd=>?_⟩
     obtain⟨tt,tt1,_⟩:=G.lg
     obtain⟨dd,dd1,_⟩:=G.db
     have G2:=(G.mono s2').rebase hd (xJ G.same fd) (zC tt1 fd) (zC dd1 fd)
     have sB:=zH (xJ G.same fd) (.lst [.str ‹""›])
     refine⟨d,rfl,⟨_,bQ.of hd⟩,?_⟩
     refine yY (xs:=[.str ‹""›]) (fun j σ H'=>∃ v,σ=[some (.ref g),some (.int (i:Nat)),some x,v]∧j6 A (upd Fw d (.lst [.str ‹""›])) c S bk Pt g H' (if j=0 then s else s2) n) ⟨_,rfl,by rw [if_pos rfl];exact G2⟩ (fun j σ H3 hj hw=>?_) (fun j x' σ H3 hx3 hw=>?_) (fun σ H3 hw=>?_)
     · obtain⟨v,rfl,G3⟩:=hw
       exact bQ.of (G3.same _ _ zB)
     · cases j with
       | succ j=>simp at hx3
       | zero =>
         cases hx3
         obtain⟨v,rfl,G3⟩:=hw
         rw [if_pos rfl] at G3
         refine⟨_,rfl,g,_,c.dx,gF c s.ov,JTr B hc hh T,rfl,G3.go,rfl,_,rfl,_,rfl,?_⟩
         refine⟨_,c,S,bk,g,s,n,x,sh,rfl,G3,hR.kq (.of sB),hmem,by omega,by omega,fun H' G4=>⟨_,rfl,?_⟩⟩
         rw [if_neg (by omega),← hs2];exact G4
     · obtain⟨v,rfl,G3⟩:=hw
       rw [if_neg (by decide)] at G3
       refine⟨_,rfl,g,_,c.dx,gF c s2.ov,JLv B hc hh T,rfl,G3.go,rfl,_,rfl,?_⟩
       exact⟨_,c,S,bk,g,s2,n,i,sh,rfl,G3,hsh,by omega,fun H' G4=>⟨_,_,_,rfl,sH.trans sB,G4⟩⟩
def JGo (T:Txt K mg A):cM P w K mg base bW 11 A.aj "go":=⟨_,_,_,W4 A Pt,[],[],T.au,T.vX,W8 B hc hh T,T.zp,.nil⟩
def Xa (A:cJ) (Pt:Addr):Sp:=fun vs H Q _=>∃ pa bk S b kb Lf,vs=[.ref pa,.ref bk]∧Lg A H pa S∧GS S∧H bk=some (.dT b)∧(∀ z,Ov b z=bv (kb z))∧Uv H Pt∧Fin kb S 0 ⟨[],[],false⟩ Lf∧∀ l ts H',H l=none→aD H H'→H' l=some (.lst ts)→Paired (wF H') ts Lf→Q (.ref l) H'
theorem Dg (T:Txt K mg A):bz P w K mg base bW 12 A.lJ A.pX ["paper","book"] (Xa A Pt):=by
 have pD:=W7 (P:=P) (w:=w) (base:=base) T
 refine T.El.ok tZ (fun vs H Q E h=>?_) (fun cdv A0 outer s H vs Q E hr h=>?_)
 · obtain⟨pa,bk,S,b,kb,Lf,rfl,_⟩:=h
   rfl
 obtain⟨pa,bk,S,b,kb,Lf,rfl,hP,hQ,hb,hB,hT,hF,k⟩:=h
 obtain⟨k_go,e1⟩:∃ k:Nat,k=11:=⟨_,rfl⟩
 refine⟨_,(zE (zU (i:=2) tZ.nd rfl ‹0› (gR T.CG pD ‹hr› rfl T.Fg T.pq .nil zN (zA (pv 0) (zA (pv 1) zD))))
     (zE (zR (Hv (CX:=bW) (k:=k_go) ‹hr› zN (pv 2)))
     (zF (zO (zK (pv 2) rfl))))),?_⟩
 subst e1
 refine⟨_,rfl,_,rfl,fun g dx ng ndx ne=>?_⟩
 have s1:=yS ng ndx (.ins A.aj dx [])
 have hg1:(upd (upd H dx (.own g)) g (.ins A.aj dx [])) g=some (.ins A.aj dx []):=zB
 generalize upd (upd H dx (.own g)) g (.ins A.aj dx [])=H1 at s1 hg1 ⊢
 refine⟨g,dx,pa,S,bk,rfl,hg1,hP.kq (.of s1),hQ,fun c H2 h2 h3 F h1 N=>⟨rfl,?_⟩⟩
 subst h2 h3
 have sH:aD H H2:=fun x u hx=>F _ _ (s1 _ _ hx) (fW (zC hx ng))
 obtain⟨⟨kv,n1,n2⟩,⟨Ux,n3,n4⟩,n5,n6,n7,n8,n9,n10,n11,n12,n13,n14,n15⟩:=N
 have m1:=xJ s1 n6
 have m2:=xJ s1 n8
 have m3:=xJ s1 n10
 generalize hH0:dels H2 [g,c.aq,c.lg,c.db]=H0
 have in0:∀ {x:Addr},x≠g→x≠c.aq→x≠c.lg→x≠c.db→H0 x=H2 x:=fun {x} a1 a2 a3 a4=>by
   rw [← hH0,xD]
   intro z
   simp only [List.mem_cons,List.not_mem_nil,or_false] at z
   rcases z with z | z | z | z
   · exact a1 z
   · exact a2 z
   · exact a3 z
   · exact a4 z
 have Ly:∀ {x:Addr},x∈[g,c.aq,c.lg,c.db]→H0 x=none:=fun {x} z=>by rw [← hH0];exact qI z
 have O3:aD H H0:=fun x u hx=>by
   rw [in0 (zC hx ng) (zC hx m1) (zC hx m2) (zC hx m3)];exact sH _ _ hx
 have keep:∀ {x:Addr}{o:HO},H2 x=some o→x≠g→x≠c.aq→(∀ q,o≠.lst q)→H0 x=some o:=fun {x o} hx a1 a2 hn=>by
   rw [in0 a1 a2 (yL hx n9 (hn _)) (yL hx n11 (hn _))];exact hx
 have dg:∀ {x:Addr}{q:List (Key × V)},H2 x=some (.dK q)→x≠g:=fun {x q} hx=>yL hx h1 (by intro z;cases z)
 have s02:aD H0 H2:=fun x u hx=>by
   by_cases e:x∈[g,c.aq,c.lg,c.db]
   · rw [Ly e] at hx;cases hx
   · rw [← hH0,xD e] at hx;exact hx
 have G0:j6 A H0 c S kb Pt g H2 ⟨[],[],false⟩ 0:=by
   refine⟨s02,⟨hP.kq (.of O3),⟨b,O3 _ _ hb,hB⟩,O3 _ _ hT,⟨kv,keep n1 (dg n1) n13 (fun _ z=>by cases z),fun z hz=>?_⟩,⟨Ux,keep n3 (dg n3) n14 (fun _ z=>by cases z),n4⟩,keep n5 (dg n5) n15 (fun _ z=>by cases z),hQ⟩,Ly (by simp),Ly (by simp),Ly (by simp),Ly (by simp),n12,h1,⟨[],n7,⟨Nat.le_refl _,(fun z hz=>by cases hz),fun _ _=>rfl⟩,(fun z d hz=>by cases hz)⟩,⟨[],n9,.nil⟩,⟨[],n11,Nat.le_refl _⟩⟩
   obtain⟨kp,dk,k1,k2⟩:=n2 z hz
   exact⟨kp,dk,k1,keep k2 (yL k2 h1 (by intro z;injection z with _ _ z;cases z)) (yL k2 n7 (by intro z;cases z)) (fun _ z=>by cases z)⟩
 refine⟨_,rfl,g,_,c.dx,gF c false,JGo B hc hh T,rfl,h1,rfl,?_⟩
 refine⟨H0,c,S,kb,g,Lf,rfl,G0,hF,fun Fw H3 l ov m s3 G3=>?_⟩
 refine⟨_,rfl,g,_,c.dx,gF c ov,_,rfl,G3.go,T.au,T.cL,rfl,?_⟩
 obtain⟨ts,t1,t2⟩:=G3.lg
 exact k c.lg ts H3 m2 ((O3.trans s3).trans G3.same) t1 t2
end
def Sy.m:Sy→Int
 | .yes _=>1
 | .no _=>2
 | .nt _=>3
def Lz (H:Hp) (x:V):Sg→Prop
 | none=>x=.non
 | some y=>∃ a,x=.ref a∧H a=some (.tup [.str y.n,.int y.m])
theorem Lz.same {H H':Hp} (f:aD H H') {x:V}{s:Sg} (h:Lz H x s):Lz H' x s:=by
 cases s with
 | none=>exact h
 | some y=>obtain⟨a,e,h⟩:=h;exact⟨a,e,f _ _ h⟩
def Xb (c:Bool):Str:=if c=true then ‹"check"› else ‹"ask"›
def Dh (H:Hp) (x:V) (r:Rw):Prop:=∃ a y,x=.ref a∧H a=some (.tup [.str (Xb r.Ak),.str r.nm,y,.bl r.firm])∧Lz H y r.sg
def Ip (H:Hp) (x:V) (v:Wy):Prop:=∃ a y,x=.ref a∧H a=some (.tup [.int (v.1:Nat),y])∧Lz H y v.2
abbrev Ls:=List Rw × List Wy
def Mp (H:Hp) (x:V) (s:Ls):Prop:=∃ a l1 l2 xs ys,x=.ref a∧H a=some (.tup [.ref l1,.ref l2])∧H l1=some (.lst xs)∧H l2=some (.lst ys)∧Paired (Dh H) xs s.1∧Paired (Ip H) ys s.2
theorem Dh.same {H H':Hp} (f:aD H H') {x:V}{s:Rw} (h:Dh H x s):Dh H' x s:=by
 obtain⟨a,y,e,h1,h2⟩:=h
 exact⟨a,y,e,f _ _ h1,h2.same f⟩
theorem Ip.same {H H':Hp} (f:aD H H') {x:V}{s:Wy} (h:Ip H x s):Ip H' x s:=by
 obtain⟨a,y,e,h1,h2⟩:=h
 exact⟨a,y,e,f _ _ h1,h2.same f⟩
theorem Mp.same {H H':Hp} (f:aD H H') {x:V}{s:Ls} (h:Mp H x s):Mp H' x s:=by
 obtain⟨a,l1,l2,xs,ys,e,h1,h2,h3,h4,h5⟩:=h
 exact⟨a,l1,l2,xs,ys,e,f _ _ h1,f _ _ h2,f _ _ h3,zJ h4 fun _ _=>Dh.same f,zJ h5 fun _ _=>Ip.same f⟩
def Fy (i:Nat):Str:=‹"sheet"› ++ S [97+i]
def SS (ss:List Ls):List kW:=ss.mapIdx fun i s=>(Fy i,s)
theorem wy {ss:List Ls}{i:Nat}{s:Ls} (h:ss[i]? = some s):(SS ss)[i]? = some (Fy i,s):=by
 unfold SS;rw [List.getElem?_mapIdx,h];rfl
theorem gQ (ss:List Ls):(SS ss).length=ss.length:=List.length_mapIdx
def BkR (lb:List (Key × V)) (kb:Bk):Prop:=∀ z,bR lb (.inr z)=(kb z).map V.bl
theorem Aw {H:Hp}{a:Addr}{kvs:List (Key × V)}{k:Key} (e:Rd H a (.dK kvs)):fX H a (kV k) (bR kvs k):=.inl ⟨kvs,k,e,rfl,rfl⟩
theorem Qp {H:Hp}{a b:Addr}{kvs:List (Key × V)}{xs:List V} (h:Rd H a (.dK kvs)) (k:H b=some (.lst xs)):a≠b:=by
 rcases h with h | ⟨o,h⟩
 · exact yL h k (by intro z;cases z)
 · exact yL h k (by intro z;cases z)
theorem Qq {M:List Addr}{H H':Hp} (F:Fr M H H') {a:Addr}{u:HO} (h:Rd H a u) (n:a∉M):Rd H' a u:=by
 rcases h with h | ⟨o,h⟩
 · exact .inl (F _ _ h n)
 · exact .inr ⟨o,F _ _ h n⟩
theorem GK {H H':Hp} (s:aD H H') {a:Addr}{u:HO} (h:Rd H a u):Rd H' a u:=Qq (M:=[]) (Fr.of s) h (by simp)
def Su:Sp:=fun vs H Q _=>∃ (n:Int) (l:Addr) (zs:List Str),vs=[.int n,.ref l]∧H l=some (.lst (zs.map V.str))∧zs.length≤100∧∀ x sg H',aD H H'→Lz H' x sg→(∀ y,sg=some y→y.n∈zs)→Q x H'
def Xc (A:cJ):Sp:=fun vs H Q _=>∃ x sg,vs=[x]∧Lz H x sg∧∀ y H',aD H H'→Le A H' y sg→Q y H'
def Xd:Sp:=fun vs H Q _=>∃ x sg bk lb kb al l,vs=[x,.ref bk,.ref al]∧Lz H x sg∧Rd H bk (.dK lb)∧BkR lb kb∧H al=some (.lst (l.map V.str))∧(∀ z∈l,∃ b,kb z=some b)∧Q (.bl (hold kb l sg)) H
theorem LC (z:Str) (ws:List Str):inV (.str z) (ws.map V.str)=decide (z∈ws):=by
 unfold inV
 rw [List.any_map,Bool.eq_iff_iff,List.any_eq_true,decide_eq_true_iff]
 constructor
 · rintro ⟨y,hy,e⟩
   have:y=z:=eq_of_beq e
   rw [← this];exact hy
 · intro h;exact⟨z,h,by show (z == z)=true;exact beq_self_eq_true z⟩
section
variable {P:Program}{w:World}{K:W.Frag}{mg:Str→Option Value}{base:Heap}{A:cJ}
theorem O5 (T:Txt K mg A):bz P w K mg base bW 1 A.iZ A.lR ["_law_cell_here","_law_asked"] Su:=by
 refine T.zx.ok w5 (fun vs H Q E h=>?_) (fun cdv A0 outer s H vs Q E hr h=>?_)
 · obtain⟨n,l,zs,rfl,_⟩:=h
   rfl
 obtain⟨n,l,zs,rfl,hl,hz,q⟩:=h
 refine⟨_,(zE (yH (PW.pt (IK (zZ (Rh (Rj hr)) (pv 1) (yR zD) (yE _)) (Ds (zZ jj (zM yW (pv 0) zI) zI (yE _))))) (zF (zO jX)) zV)
     (zF (zO (yN (zA (yX xM (pv 1) (zM yW (zM lq (pv 0) zI) (yI yM (by rfl) T.qP PySem.boot_len (zA (pv 1) zD))) (fun _ _=>rfl)) (zA (zM yW (pv 0) zI) zD)))))),?_⟩
 refine⟨_,rfl,(by show 0≤sizeLine;decide),fun p0 hp0=>?_⟩
 have s0:=zH hp0 (.lst [])
 have hl0:=s0 _ _ hl
 refine⟨_,Ea (bQ.of hl0) (bQ.of zB) (sX zs) rfl,_,rfl,?_⟩
 have non:Q .non (upd H p0 (.lst [])):=q _ none _ s0 rfl (fun _ z=>by cases z)
 cases he:BK (zs.map V.str) [] with
 | true=>exact bU (bU non)
 | false =>
   have hpos:0<zs.length:=by
     cases zs with
     | nil=>cases he
     | cons a r=>exact Nat.zero_lt_succ _
   refine bN ⟨_,rfl,_,_,rfl,rfl,(by show (0:Int)<4;decide),rfl,_,rfl,?_⟩
   have b0:=Int.emod_nonneg n (b:=4) (by decide)
   have b1:=Int.emod_lt_of_pos n (b:=4) (by decide)
   have ml:(zs.map V.str).length=zs.length:=List.length_map ..
   have c0:=Int.emod_nonneg (n / 4) (b:=(zs.length:Int)) (by omega)
   have c1:=Int.emod_lt_of_pos (n / 4) (b:=(zs.length:Int)) (by omega)
   refine yw (fun c=>non) (fun c=>?_)
   have hne:n % 4≠0:=fun e=>c (decide_eq_true (by show V.int (n % 4)=V.int 0;rw [e]))
   obtain⟨v,hv,hv2⟩:=uJ (l:=zs.map V.str) (i:=n / 4 % (zs.length:Int)) c0 (by rw [ml];exact c1)
   obtain⟨z,hz2,rfl⟩:=uK hv2
   have hmem:z∈zs:=List.mem_of_getElem? hz2
   refine⟨_,rfl,_,rfl,_,_,rfl,rfl,⟨by decide,by decide⟩,_,rfl,l,_,rfl,.inl (bQ.of hl0),_,_,rfl,rfl,(by rw [ml];omega),l,_,_,_,rfl,rfl,bQ.of hl0,(by rw [ml];exact hv),_,rfl,_,_,rfl,rfl,(by show (0:Int)<4;decide),(by show 2≤sizeLine;decide),fun p hp=>?_⟩
   have s1:=zH hp (.tup [.str z,.int (n % 4)])
   have fin:∀ y:Sy,y.n=z→y.m=n % 4→Q (.ref p) (upd (upd H p0 (.lst [])) p (.tup [.str z,.int (n % 4)])):=fun y e1 e2=>by
     refine q _ (some y) _ (s0.trans s1) ⟨p,rfl,by rw [e1,e2];exact zB⟩ fun y' e=>?_
     cases e;rw [e1];exact hmem
   have h3:n % 4=1∨n % 4=2∨n % 4=3:=by omega
   rcases h3 with e | e | e
   · exact fin (.yes z) rfl e.symm
   · exact fin (.no z) rfl e.symm
   · exact fin (.nt z) rfl e.symm
theorem Sv (T:Txt K mg A):bz P w K mg base bW 3 A.jb A.lU ["_law_saying_here"] (Xc A):=by
 have gZ:=wg (P:=P) (w:=w) (base:=base) T
 have jJ:=wj (P:=P) (w:=w) (base:=base) T
 refine T.zy.ok w6 (fun vs H Q E h=>?_) (fun cdv A0 outer s H vs Q E hr h=>?_)
 · obtain⟨x,sg,rfl,_⟩:=h
   rfl
 obtain⟨x,sg,rfl,hS,q⟩:=h
 refine⟨_,(zE (yH (zZ rF (pv 0) jX (yE _)) (zF (zO jX)) zV)
     (zE (yH (zZ jj (yX xO (pv 0) zI (fun _ _=>rfl)) zI (yE _)) (zF (zO (gR T.K6 jJ ‹hr› rfl T.Qg T.nT .nil zN (zA (gR T.K5 gZ ‹hr› rfl T.Rz T.nQ T.nR zN (zA (yX xO (pv 0) zI (fun _ _=>rfl)) (zA zS zD))) zD)))) zV)
     (zF (zO (gR T.K5 gZ ‹hr› rfl T.Rz T.nQ T.nR zN (zA (yX xO (pv 0) zI (fun _ _=>rfl)) (zA (yX xM (yR (zA zS (zA zS zD))) (zM yW (yX xO (pv 0) zI (fun _ _=>rfl)) zI) (fun _ _=>rfl)) zD))))))),?_⟩
 cases sg with
 | none =>
   have hS:x=.non:=hS
   subst hS
   exact⟨_,rfl,rfl,_,rfl,bU (q _ _ (aD.refl _) rfl)⟩
 | some y =>
   obtain⟨a,rfl,ha⟩:=hS
   refine⟨_,rfl,rfl,_,rfl,bN ?_⟩
   refine⟨_,rfl,a,_,_,_,rfl,rfl,gf.of ha,zX (j:=1) rfl,rfl,_,rfl,?_⟩
   cases y with
   | yes n =>
     refine Od (by rfl) ?_
     refine⟨_,rfl,a,_,_,_,rfl,rfl,gf.of ha,zX (j:=0) rfl,?_⟩
     refine⟨(by show 2≤sizeLine;decide),fun p hp=>?_⟩
     have s1:=zH hp (.lst [.str ‹"no"›,.str ‹"yes"›])
     refine⟨_,rfl,a,_,_,_,rfl,rfl,gf.of (s1 _ _ ha),zX (j:=1) rfl,_,_,rfl,rfl,(by show (0:Int)<2;decide),p,_,_,_,rfl,rfl,bQ.of zB,zX (j:=1) rfl,?_⟩
     intro x dx nx nd ne
     refine⟨x,dx,_,_,_,rfl,zB,rfl,?_⟩
     rw [yQ]
     exact q _ _ (s1.trans (yS nx nd _)) ⟨x,dx,rfl,zB⟩
   | no n =>
     refine Od (by rfl) ?_
     refine⟨_,rfl,a,_,_,_,rfl,rfl,gf.of ha,zX (j:=0) rfl,?_⟩
     refine⟨(by show 2≤sizeLine;decide),fun p hp=>?_⟩
     have s1:=zH hp (.lst [.str ‹"no"›,.str ‹"yes"›])
     refine⟨_,rfl,a,_,_,_,rfl,rfl,gf.of (s1 _ _ ha),zX (j:=1) rfl,_,_,rfl,rfl,(by show (0:Int)<2;decide),p,_,_,_,rfl,rfl,bQ.of zB,zX (j:=0) rfl,?_⟩
     intro x dx nx nd ne
     refine⟨x,dx,_,_,_,rfl,zB,rfl,?_⟩
     rw [yQ]
     exact q _ _ (s1.trans (yS nx nd _)) ⟨x,dx,rfl,zB⟩
   | nt n =>
     refine Wn (by rfl) ?_
     refine⟨_,rfl,a,_,_,_,rfl,rfl,gf.of ha,zX (j:=0) rfl,?_⟩
     intro x dx nx nd ne
     refine⟨x,dx,_,_,_,rfl,zB,rfl,?_⟩
     rw [yQ]
     have s1:=yS nx nd (Mm A dx n ‹"yes"› .non)
     intro x2 WX nx2 Us ne2
     refine⟨x2,WX,_,rfl,zB,rfl,?_⟩
     rw [yQ]
     have s2:=yS nx2 Us (Ut A WX x)
     exact q _ _ (s1.trans s2) ⟨x2,WX,x,dx,rfl,zB,s2 _ _ zB⟩
theorem LK (T:Txt K mg A):bz P w K mg base bW 1 A.jO A.m8 ["_law_saying_here","_law_book","_law_asked"] Xd:=by
 refine T.Ck.ok Ah (fun vs H Q E h=>?_) (fun cdv A0 outer s H vs Q E hr h=>?_)
 · obtain⟨x,sg,bk,lb,kb,al,l,rfl,_⟩:=h
   rfl
 obtain⟨x,sg,bk,lb,kb,al,l,rfl,hS,hb,hB,hl,hsome,q⟩:=h
 refine⟨_,(zE (yH (zZ rF (pv 0) jX (yE _)) (zF (zO mY)) zV)
     (zE (yH (zZ yt (yX xO (pv 0) zI (fun _ _=>rfl)) (pv 2) (by rfl)) (zF (zO (iY jj (yX xO (pv 0) zI (fun _ _=>rfl)) zI (yE _)))) zV)
     (zF (zO (iY jj (lA (xK hr) (pv 1) (yX xO (pv 0) zI (fun _ _=>rfl)) (fun _ _=>rfl)) (iY jj (yX xO (pv 0) zI (fun _ _=>rfl)) zI (yE _)) (yE _)))))),?_⟩
 cases sg with
 | none =>
   have hS:x=.non:=hS
   subst hS
   exact⟨_,rfl,rfl,_,rfl,bU q⟩
 | some y =>
   obtain⟨a,rfl,ha⟩:=hS
   refine⟨_,rfl,rfl,_,rfl,bN ?_⟩
   refine⟨_,rfl,a,_,_,_,rfl,rfl,gf.of ha,zX (j:=0) rfl,_,rfl,al,_,rfl,.inl (bQ.of hl),rfl,sX l,_,rfl,?_⟩
   rw [LC]
   by_cases hm:y.n∈l
   · rw [decide_eq_true hm]
     refine bN ?_
     obtain⟨b,hb2⟩:=hsome y.n hm
     have hv:bR lb (.inr y.n)=some (.bl b):=by rw [hB,hb2];rfl
     refine⟨_,rfl,_,rfl,a,_,_,_,rfl,rfl,gf.of ha,zX (j:=0) rfl,bk,_,rfl,(by rw [← hv];exact Aw (k:=.inr y.n) hb),?_⟩
     refine⟨_,rfl,a,_,_,_,rfl,rfl,gf.of ha,zX (j:=1) rfl,rfl,rfl,?_⟩
     have e:decide (V.bl b=V.bl (decide (V.int y.m=V.int 1)))=hold kb l (some y):=by
       show _=evS (Rk kb l) y
       have eR:Rk kb l y.n=some (Dp b):=by unfold Rk;rw [if_pos hm,hb2];rfl
       cases y with
       | yes n=>show _=decide (Rk kb l n=some 1);rw [show Rk kb l n=some (Dp b) from eR];cases b <;> rfl
       | no n=>show _=decide (Rk kb l n=some 0);rw [show Rk kb l n=some (Dp b) from eR];cases b <;> rfl
       | nt n=>show _=!decide (Rk kb l n=some 1);rw [show Rk kb l n=some (Dp b) from eR];cases b <;> rfl
     rw [e]
     exact q
   · rw [decide_eq_false hm]
     refine bU ?_
     refine⟨_,rfl,a,_,_,_,rfl,rfl,gf.of ha,zX (j:=1) rfl,rfl,?_⟩
     have e:decide (V.int y.m=V.int 3)=hold kb l (some y):=by
       show _=evS (Rk kb l) y
       have eR:Rk kb l y.n=none:=by unfold Rk;rw [if_neg hm]
       cases y with
       | yes n=>show _=decide (Rk kb l n=some 1);rw [show Rk kb l n=none from eR];rfl
       | no n=>show _=decide (Rk kb l n=some 0);rw [show Rk kb l n=none from eR];rfl
       | nt n=>show _=!decide (Rk kb l n=some 1);rw [show Rk kb l n=none from eR];rfl
     rw [e]
     exact q
end
def Known (kb:Bk) (l:List Str):Prop:=∀ z∈l,∃ b,kb z=some b
theorem FJ {kb:Bk}{s:Gs}{r:Rw} (h:Known kb s.l):Known kb (dm kb s r).l:=by
 unfold dm
 split
 · exact h
 split
 · split
   · exact h
   · split <;> exact h
 · split
   · cases e:kb r.nm with
     | none=>exact h
     | some b =>
       intro z hz
       rcases List.mem_append.mp hz with hz | hz
       · exact h z hz
       · rw [List.mem_singleton.mp hz];exact⟨b,e⟩
   · exact h
def Xe:Sp:=fun vs H Q _=>∃ lr bk al lg xs rs lb kb s ts,vs=[.ref lr,.ref bk,.ref al,.ref lg]∧H lr=some (.lst xs)∧Paired (Dh H) xs rs∧rs.length≤4∧Rd H bk (.dK lb)∧BkR lb kb∧H al=some (.lst (s.l.map V.str))∧H lg=some (.lst ts)∧Paired (wF H) ts s.L∧al≠lg∧lr≠al∧lr≠lg∧s.ov=false∧Known kb s.l∧s.l.length≤100∧s.L.length≤100 ∧
 ∀ ts' H',Fr [al,lg] H H'→H' al=some (.lst ((aM kb s rs).l.map V.str))→H' lg=some (.lst ts')→Paired (wF H') ts' (aM kb s rs).L→Known kb (aM kb s rs).l→Q (.bl (!(aM kb s rs).ov)) H'
theorem O6 {x a b:Addr} (h:x≠a) (k:x≠b):x∉[a,b]:=fun e=>by
 rcases List.mem_cons.mp e with e | e
 · exact h e
 · exact k (List.mem_singleton.mp e)
theorem Xf {M:List Addr}{H H':Hp} (F:Fr M H H') (hM:∀ m∈M,∃ q,H m=some (.lst q)) {x:V}{r:Rw} (h:Dh H x r):Dh H' x r:=by
 have tp:∀ {a:Addr}{t:List V},H a=some (.tup t)→H' a=some (.tup t):=fun {a t} ha=>F _ _ ha fun hm=>by
   obtain⟨q,hq⟩:=hM a hm
   rw [ha] at hq;cases hq
 obtain⟨a,y,e,h1,h2⟩:=h
 refine⟨a,y,e,tp h1,?_⟩
 cases hs:r.sg with
 | none=>rw [hs] at h2;exact h2
 | some g=>rw [hs] at h2;obtain⟨b,e2,h3⟩:=h2;exact⟨b,e2,tp h3⟩
structure GP (G:Hp) (al lg:Addr) (l:List Str) (ts:List V) (L:List (List V)) (e:List V) (p:Addr):Prop where
 hl:(upd G p (.tup e)) lg=some (.lst ts)
 ha:(upd (upd G p (.tup e)) lg (.lst (ts++[.ref p]))) al=some (.lst (l.map V.str))
 ht:Paired (wF (upd (upd G p (.tup e)) lg (.lst (ts++[.ref p])))) (ts++[.ref p]) (L++[e])
 hf:Fr [al,lg] G (upd (upd G p (.tup e)) lg (.lst (ts++[.ref p])))
theorem O7 {G:Hp}{al lg:Addr}{l:List Str}{ts:List V}{L:List (List V)}{e:List V}{p:Addr} (hp:G p=none) (ga:G al=some (.lst (l.map V.str))) (gl:G lg=some (.lst ts)) (Ie:Paired (wF G) ts L) (n:al≠lg):GP G al lg l ts L e p:=by
 have s1:=zH hp (.tup e)
 have npl:p≠lg:=Ne.symm (zC gl hp)
 refine⟨s1 _ _ gl,by rw [zG n];exact s1 _ _ ga,yO (zJ Ie fun x t z=>?_) (.cons ⟨p,rfl,by rw [zG npl];exact zB⟩ .nil),(Fr.of s1).upd (List.mem_cons_of_mem _ (List.mem_singleton.mpr rfl)) _⟩
 obtain⟨a,e',h1⟩:=z
 exact⟨a,e',by rw [zG (yL h1 gl (by intro z;cases z))];exact s1 _ _ h1⟩
section
variable {P:Program}{w:World}{K:W.Frag}{mg:Str→Option Value}{base:Heap}{A:cJ}
theorem Sw (T:Txt K mg A):bz P w K mg base bW 2 A.lW A.qb ["_law_rows_here","_law_book","_law_asked","_law_log"] Xe:=by
 have jV:=LK (P:=P) (w:=w) (base:=base) T
 refine T.EY.ok ir (fun vs H Q E h=>?_) (fun cdv A0 outer s H vs Q E hr h=>?_)
 · obtain⟨lr,bk,al,lg,xs,rs,lb,kb,s,ts,rfl,_⟩:=h
   rfl
 obtain⟨lr,bk,al,lg,xs,rs,lb,kb,s,ts,rfl,hr',hxs,h4,hb,hB,ha,hl,hts,Sx,Uy,Xg,ho,hK,hl1,hL1,q⟩:=h
 refine⟨_,(zE (yP PassesOwn.never rfl (yZ (pv 0)) (kY rfl (yA (zQ (i:=4) ir.nd rfl ‹0›) (yA (zQ (i:=5) ir.nd rfl ‹0›) (yA (zQ (i:=6) ir.nd rfl ‹0›) (yA (zQ (i:=7) ir.nd rfl ‹0›) iW))))) (zF (yH (zZ jj (pv 4) zS (yE _)) (zF (yH (yJ (yF jV ‹hr› rfl T.nY T.nW T.nU .nil zN (zA (pv 6) (zA (pv 1) (zA (pv 2) zD))))) (zF (zR (xH PySem.F.plainAttrs_list PySem.F.slot_list_append PySem.F.type_list_append zY (pv 3) (zA (yN (zA zS (zA (pv 5) (zA zS zD)))) zD)))) (zF (yH (yJ (pv 7)) (zE (zR (xH PySem.F.plainAttrs_list PySem.F.slot_list_append PySem.F.type_list_append zY (pv 3) (zA (yN (zA zS (zA (pv 5) (zA zS zD)))) zD)))
     (zF (zO mY))) (zF (zR (xH PySem.F.plainAttrs_list PySem.F.slot_list_append PySem.F.type_list_append zY (pv 3) (zA (yN (zA zS (zA (pv 5) (zA zS zD)))) zD)))))))) (zF (yH (yJ (yF jV ‹hr› rfl T.nY T.nW T.nU .nil zN (zA (pv 6) (zA (pv 1) (zA (pv 2) zD))))) (zE (yH (zZ (pR (xK hr)) (pv 5) (pv 1) (by rfl)) (zE (zR (xH PySem.F.plainAttrs_list PySem.F.slot_list_append PySem.F.type_list_append zY (pv 3) (zA (yN (zA zS (zA (pv 5) (zA zS zD)))) zD)))
     (zF (zO mY))) zV)
     (zE (zR (xH PySem.F.plainAttrs_list PySem.F.slot_list_append PySem.F.type_list_append zY (pv 3) (zA (yN (zA zS (zA (pv 5) (zA zS (zA (lA (xK hr) (pv 1) (pv 5) (fun _ _=>rfl)) zD))))) zD)))
     (zF (zR (xH PySem.F.plainAttrs_list PySem.F.slot_list_append PySem.F.type_list_append zY (pv 2) (zA (pv 5) zD)))))) zV)))))
     (zF (zO mY))),?_⟩
 generalize h0:L2.start _ _=σ0
 have h0:σ0=[some (.ref lr),some (.ref bk),some (.ref al),some (.ref lg),none,none,none,none]:=by rw [← h0];rfl
 subst h0
 have lens:=zL hxs
 have hM:∀ m∈[al,lg],∃ q,H m=some (.lst q):=fun m hm=>by
   rcases List.mem_cons.mp hm with rfl | hm
   · exact⟨_,ha⟩
   · rw [List.mem_singleton.mp hm];exact⟨_,hl⟩
 have nb1:bk≠al:=Qp hb ha
 have nb2:bk≠lg:=Qp hb hl
 have mal:al∈[al,lg]:=List.mem_cons_self
 have mlg:lg∈[al,lg]:=List.mem_cons_of_mem _ (List.mem_singleton.mpr rfl)
 refine⟨_,rfl,lr,rfl,⟨xs,bQ.of hr'⟩,?_⟩
 refine yY (xs:=xs) (fun j σ G=>∃ u4 u5 u6 u7 ts,σ=[some (.ref lr),some (.ref bk),some (.ref al),some (.ref lg),u4,u5,u6,u7]∧Fr [al,lg] H G∧G al=some (.lst ((aM kb s (rs.take j)).l.map V.str))∧G lg=some (.lst ts)∧Paired (wF G) ts (aM kb s (rs.take j)).L∧(aM kb s (rs.take j)).ov=false∧Known kb (aM kb s (rs.take j)).l) ⟨_,_,_,_,ts,rfl,Fr.of (aD.refl _),ha,hl,hts,ho,hK⟩ (fun j σ G hj hw=>?_) (fun j x σ G hx hw=>?_) (fun σ G hw=>?_)
 · obtain⟨_,_,_,_,_,rfl,F,_⟩:=hw
   exact bQ.of (F _ _ hr' (O6 Uy Xg))
 · obtain⟨u4,u5,u6,u7,ts,rfl,F,ga,gl,Ie,go,gK⟩:=hw
   obtain⟨r,hri,hR⟩:=yC hxs hx
   have hst:=xF hri
   have hrow:aM kb s (rs.take (j+1))=dm kb (aM kb s (rs.take j)) r:=by rw [hst,ye]
   have Lw:=rn kb s (rs.take j)
   have ht4:(rs.take j).length≤4:=Nat.le_trans (by rw [List.length_take];exact Nat.min_le_right _ _) h4
   have hall:∀ s3,aM kb s (rs.take (j+1))=s3→s3.ov=true→aM kb s rs=s3:=fun s3 e e2=>by
     have:rs=rs.take (j+1)++rs.drop (j+1):=(List.take_append_drop _ _).symm
     rw [this]
     unfold aM
     rw [List.foldl_append]
     show aM kb (aM kb s (rs.take (j+1))) _=_
     rw [e];exact Am e2 _
   obtain⟨ta,y,rfl,t1,t2⟩:=Xf F hM hR
   generalize aM kb s (rs.take j)=s2 at ga Ie go gK hrow Lw
   obtain⟨l2,Aq,ov2⟩:=s2
   have go:ov2=false:=go
   subst go
   have gK:Known kb l2:=gK
   have tl:ts.length=Aq.length:=zL Ie
   have hL2:Aq.length≤104:=by have:=Lw.1;dsimp only at this;omega
   have hl2:l2.length≤104:=by have:=Lw.2;dsimp only at this;omega
   refine⟨ta,_,rfl,gf.of t1,rfl,_,_,rfl,_,_,rfl,_,_,rfl,_,_,rfl,rfl,?_⟩
   dsimp only [bB,List.set_cons_succ,List.set_cons_zero]
   have hb':Rd G bk (.dK lb):=Qq F hb (O6 nb1 nb2)
   have put:∀ (e:List V) (p:Addr),G p=none→GP G al lg l2 ts Aq e p:=fun e p hp=>O7 hp ga gl Ie Sx
   have small:ts.length<sizeLine:=zP (m:=1000) (by omega)
   refine⟨_,rfl,rfl,_,rfl,?_⟩
   cases hck:r.Ak with
   | true =>
     refine eqS (by rfl) ?_
     have st:dm kb ⟨l2,Aq,false⟩ r=if hold kb l2 r.sg=true then ⟨l2,Aq++[iR ‹"pass"› r.nm],false⟩ else if r.firm=true then ⟨l2,Aq++[iR ‹"held"› r.nm],true⟩ else ⟨l2,Aq++[iR ‹"warn"› r.nm],false⟩:=by
       unfold dm
       rw [if_neg (fun z=>by cases (show false=true from z)),if_pos hck]
     refine⟨_,rfl,_,rfl,_,rfl,y,r.sg,bk,lb,kb,al,l2,rfl,t2,hb',hB,ga,gK,_,rfl,?_⟩
     cases Dd:hold kb l2 r.sg with
     | true =>
       rw [Dd,if_pos rfl] at st
       rw [st] at hrow
       refine bU ⟨_,rfl,.inl ⟨rfl,_,bQ.of gl⟩,_,rfl,(by show 3≤sizeLine;decide),fun p hp=>?_⟩
       obtain⟨g1,g2,g3,g4⟩:=put (iR ‹"pass"› r.nm) p hp
       refine⟨lg,_,_,rfl,rfl,g1,small,_,_,_,_,ts++[.ref p],rfl,F.trans g4,?_⟩
       rw [hrow]
       exact⟨g2,zB,g3,rfl,gK⟩
     | false =>
       rw [Dd,if_neg (by decide)] at st
       refine bN ⟨_,rfl,_,rfl,?_⟩
       cases hfi:r.firm with
       | true =>
         rw [hfi,if_pos rfl] at st
         rw [st] at hrow
         have e:=hall _ hrow rfl
         refine bU ⟨_,rfl,.inl ⟨rfl,_,bQ.of gl⟩,_,rfl,(by show 3≤sizeLine;decide),fun p hp=>?_⟩
         obtain⟨g1,g2,g3,g4⟩:=put (iR ‹"held"› r.nm) p hp
         refine⟨lg,_,_,rfl,rfl,g1,small,?_⟩
         have:=q _ _ (F.trans g4) (by rw [e];exact g2) zB (by rw [e];exact g3) (by rw [e];exact gK)
         rw [e] at this
         exact this
       | false =>
         rw [hfi,if_neg (by decide)] at st
         rw [st] at hrow
         refine bN ⟨_,rfl,.inl ⟨rfl,_,bQ.of gl⟩,_,rfl,(by show 3≤sizeLine;decide),fun p hp=>?_⟩
         obtain⟨g1,g2,g3,g4⟩:=put (iR ‹"warn"› r.nm) p hp
         refine⟨lg,_,_,rfl,rfl,g1,small,_,_,_,_,ts++[.ref p],rfl,F.trans g4,?_⟩
         rw [hrow]
         exact⟨g2,zB,g3,rfl,gK⟩
   | false =>
     refine Uu (by show ‹"ask"› ≠ ‹"check"›;decide +kernel) ?_
     have st:dm kb ⟨l2,Aq,false⟩ r=if hold kb l2 r.sg=true then (match kb r.nm with | none=>⟨l2,Aq++[iR ‹"open"› r.nm],true⟩ | some b=>⟨l2++[r.nm],Aq++[Fq r.nm b],false⟩) else ⟨l2,Aq,false⟩:=by
       unfold dm
       rw [if_neg (fun z=>by cases (show false=true from z)),if_neg (by rw [hck];decide)]
       all_goals (cases kb r.nm <;> rfl)
     refine⟨_,rfl,_,rfl,_,rfl,y,r.sg,bk,lb,kb,al,l2,rfl,t2,hb',hB,ga,gK,_,rfl,?_⟩
     cases Dd:hold kb l2 r.sg with
     | false =>
       rw [Dd,if_neg (by decide)] at st
       rw [st] at hrow
       refine bN ⟨_,_,_,_,ts,rfl,F,?_⟩
       rw [hrow]
       exact⟨ga,gl,Ie,rfl,gK⟩
     | true =>
       rw [Dd,if_pos rfl] at st
       refine bU ⟨_,rfl,_,rfl,bk,_,rfl,Aw (k:=.inr r.nm) hb',_,rfl,?_⟩
       rw [hB]
       cases hkb:kb r.nm with
       | none =>
         rw [hkb] at st
         rw [st] at hrow
         have e:=hall _ hrow rfl
         refine bU ⟨_,rfl,.inl ⟨rfl,_,bQ.of gl⟩,_,rfl,(by show 3≤sizeLine;decide),fun p hp=>?_⟩
         obtain⟨g1,g2,g3,g4⟩:=put (iR ‹"open"› r.nm) p hp
         refine⟨lg,_,_,rfl,rfl,g1,small,?_⟩
         have:=q _ _ (F.trans g4) (by rw [e];exact g2) zB (by rw [e];exact g3) (by rw [e];exact gK)
         rw [e] at this
         exact this
       | some b =>
         rw [hkb] at st
         rw [st] at hrow
         refine bN ?_
         have hv:bR lb (.inr r.nm)=some (.bl b):=by rw [hB,hkb];rfl
         refine⟨_,rfl,.inl ⟨rfl,_,bQ.of gl⟩,_,rfl,_,rfl,_,rfl,bk,_,rfl,(by rw [← hv];exact Aw (k:=.inr r.nm) hb'),(by show 4≤sizeLine;decide),fun p hp=>?_⟩
         obtain⟨g1,g2,g3,g4⟩:=put (Fq r.nm b) p hp
         refine⟨lg,_,_,rfl,rfl,g1,small,?_⟩
         refine⟨_,rfl,.inl ⟨rfl,_,bQ.of g2⟩,_,rfl,al,_,_,rfl,rfl,g2,zP (m:=1000) (by rw [List.length_map];omega),_,_,_,_,ts++[.ref p],rfl,(F.trans g4).upd mal _,?_⟩
         rw [hrow]
         refine⟨by rw [zB,List.map_append];rfl,by rw [zG (Ne.symm Sx)];exact zB,An g2 (fun _ z=>by cases z) g3,rfl,fun z hz=>?_⟩
         rcases List.mem_append.mp hz with hz | hz
         · exact gK z hz
         · rw [List.mem_singleton.mp hz];exact⟨b,hkb⟩
 · obtain⟨u4,u5,u6,u7,ts,rfl,F,ga,gl,Ie,go,gK⟩:=hw
   rw [lens,List.take_length] at ga Ie go gK
   have:=q ts G F ga gl Ie gK
   rw [go] at this
   exact this
end
theorem LQ {bk:Bk}{l:List Str}{ws:List Wy}{j:Nat}{v:Wy} (h:ws[j]? = some v):je bk l (ws.take (j+1))=je bk l (ws.take j)++(if hold bk l v.2=true then [v.1] else []):=by
 unfold je
 rw [xF h,List.filter_append,List.map_append]
 congr 1
 rw [List.filter_cons]
 cases hold bk l v.2 <;> rfl
theorem O8 {bk:Bk}{l:List Str}{ws:List Wy}:(je bk l ws).length≤ws.length:=by
 unfold je
 rw [List.length_map]
 exact List.length_filter_le _ _
def Xh:Sp:=fun vs H Q _=>∃ ls xs ss bk lb kb Lf,vs=[.ref ls,.ref bk]∧H ls=some (.lst xs)∧Paired (Mp H) xs ss∧GS (SS ss)∧Rd H bk (.dK lb)∧BkR lb kb∧Fin kb (SS ss) 0 ⟨[],[],false⟩ Lf ∧
 ∀ l ts H',H l=none→aD H H'→H' l=some (.lst ts)→Paired (wF H') ts Lf→Q (.ref l) H'
section
variable {P:Program}{w:World}{K:W.Frag}{mg:Str→Option Value}{base:Heap}{A:cJ}
theorem SJ (T:Txt K mg A):bz P w K mg base bW 3 A.jP A.m9 ["_law_sheets_here","_law_book"] Xh:=by
 have jV:=LK (P:=P) (w:=w) (base:=base) T
 have FN:=Sw (P:=P) (w:=w) (base:=base) T
 refine T.Cm.ok cQ (fun vs H Q E h=>?_) (fun cdv A0 outer s H vs Q E hr h=>?_)
 · obtain⟨ls,xs,ss,bk,lb,kb,Lf,rfl,_⟩:=h
   rfl
 obtain⟨ls,xs,ss,bk,lb,kb,Lf,rfl,hls,hxs,hG,hb,hB,hF,q⟩:=h
 refine⟨_,(zE (zU (i:=2) cQ.nd rfl ‹0› (yR zD))
     (zE (zU (i:=3) cQ.nd rfl ‹0› (yR zD))
     (zE (zU (i:=4) cQ.nd rfl ‹0› zI)
     (zE (xX PassesOwn.never (zZ Gi (pv 4) (yI yM (by rfl) T.qP PySem.boot_len (zA (pv 0) zD)) (yE _)) (zE (QJ (yX xM (pv 0) (pv 4) (fun _ _=>rfl)) (kY rfl (yA (zQ (i:=5) cQ.nd rfl ‹0›) (yA (zQ (i:=6) cQ.nd rfl ‹0›) iW))))
     (zE (yH (iw (yJ (yF FN ‹hr› rfl T.Fe T.Fd T.Fb .nil zN (zA (pv 5) (zA (pv 1) (zA (pv 3) (zA (pv 2) zD))))))) (zF (zO (pv 2))) zV)
     (zE (Kf (i:=7) cQ.nd rfl ‹0› (pP (jf (x:="_law_aim") (M:=["_law_sheets_here","_law_book","_law_log","_law_asked","_law_s","_law_rows_here","_law_ways","_law_led"]) rfl (by rfl)) (by rfl) (by symm)) rfl (yZ (pv 6)) (fun _ _ _ _=>(JZ (yJ (yF jV ‹hr› rfl T.nY T.nW T.nU .nil zN (zA (pv 1) (zA (pv 3) (zA (pv 5) zD))))))) (fun _ _ _ _=>(pv 0)))
     (zF (zU (i:=4) cQ.nd rfl ‹0› (yX xM (zM yu (pv 7) (yR (zA (zM xA (pv 4) zI) zD))) zI (fun _ _=>rfl))))))))
     (zF (zO (zM yu (pv 2) (yR (zA (yN (zA zS zD)) zD))))))))),?_⟩
 generalize h0:L2.start _ _=σ0
 have h0:σ0=[some (.ref ls),some (.ref bk),none,none,none,none,none,none]:=by rw [← h0];rfl
 subst h0
 have lens:=zL hxs
 have hlen:=hG.len
 rw [gQ] at hlen
 refine⟨(by show 0≤sizeLine;decide),fun lg hlg=>?_⟩
 dsimp only [bB,List.set_cons_succ,List.set_cons_zero]
 have s1:=zH hlg (.lst [])
 refine⟨(by show 0≤sizeLine;decide),fun al hal=>?_⟩
 dsimp only [bB,List.set_cons_succ,List.set_cons_zero]
 have s2:=zH hal (.lst [])
 have el:(upd (upd H lg (.lst [])) al (.lst [])) lg=some (.lst []):=s2 _ _ zB
 have ea:(upd (upd H lg (.lst [])) al (.lst [])) al=some (.lst []):=zB
 have Xi:H al=none:=(xG hal).2
 have Sx:al≠lg:=(xG hal).1
 have s12:=s1.trans s2
 generalize upd (upd H lg (.lst [])) al (.lst [])=H1 at s12 el ea
 refine⟨fun m σ G=>∃ s ts u5 u6 u7,∃ i:Nat,σ=[some (.ref ls),some (.ref bk),some (.ref lg),some (.ref al),some (.int (i:Nat)),u5,u6,u7]∧i≤ss.length∧m=ss.length - i∧aD H G∧G lg=some (.lst ts)∧Paired (wF G) ts s.L∧G al=some (.lst (s.l.map V.str))∧Known kb s.l∧s.ov=false∧s.L.length≤4*i∧s.l.length≤4*i∧Fin kb (SS ss) i s Lf,
   ⟨_,⟨[],[],false⟩,[],_,_,_,0,rfl,Nat.zero_le _,rfl,s12,el,.nil,ea,(fun z hz=>by cases hz),rfl,Nat.le_refl _,Nat.le_refl _,hF⟩,?_⟩
 rintro m σ G ⟨s,ts,u5,u6,u7,i,rfl,hi,rfl,sH,gl,Ie,ga,gK,go,hL,hl,F⟩
 have tl:=zL Ie
 refine⟨_,rfl,_,rfl,ls,_,rfl,.inl (bQ.of (sH _ _ hls)),_,_,rfl,rfl,_,rfl,?_⟩
 rw [lens]
 cases F with
 | over z=>rw [go] at z;cases z
 | done _ hle =>
   rw [gQ] at hle
   refine yw (fun c1=>?_) (fun c1=>?_)
   · have:=of_decide_eq_true c1;omega
   refine⟨_,rfl,(by show 1≤sizeLine;decide),fun t ht=>?_⟩
   have s3:=zH ht (.tup [.str ‹"end"›])
   refine⟨(by show 1≤sizeLine;decide),fun le hle'=>?_⟩
   have s4:=zH hle' (.lst [.ref t])
   have et:=s4 _ _ (zB (H:=G) (a:=t) (o:=.tup [.str ‹"end"›]))
   have s34:=s3.trans s4
   refine⟨lg,le,_,_,rfl,rfl,s34 _ _ gl,zB,zP (m:=1000) (by show ts.length+1≤1000;omega),fun p hp=>?_⟩
   have s5:=zH hp (.lst (ts++[.ref t]))
   have Qs:=s34.trans s5
   refine q p _ _ (xJ (sH.trans s34) hp) (sH.trans Qs) zB (yO (zJ Ie fun _ _=>wF.same Qs) (.cons ⟨t,rfl,s5 _ _ et⟩ .nil))
 | @step _ _ sh _ _ hsh F =>
   have hlt:i<ss.length:=by have:=(List.getElem?_eq_some_iff.mp hsh).1;rw [gQ] at this;exact this
   refine yw (fun c1=>?_) (fun c1=>absurd (decide_eq_true (show (i:Int)<(ss.length:Nat) by omega)) c1)
   have hss:ss[i]? = some ss[i]:=List.getElem?_eq_getElem hlt
   have e1:=wy hss
   rw [hsh] at e1
   cases e1
   generalize ss[i]=sl at *
   obtain⟨x,hx,hR⟩:=mH hxs hss
   have hmem:=List.mem_of_getElem? hsh
   have Io:=hG.rows _ hmem
   have Uw:=hG.ways _ hmem
   have Lw:=rn kb s sl.1
   obtain⟨ta,l1,l2,rs,ws,rfl,t1,t2,t3,t4,t5⟩:=hR
   have hnx:=Fv (bk:=kb) hG hsh (aM kb s sl.1)
   rw [gQ] at hnx
   have hK2:Known kb (aM kb s sl.1).l:=by
     have aux:∀ (rs:List Rw) (s:Gs),Known kb s.l→Known kb (aM kb s rs).l:=by
       intro rs
       induction rs with
       | nil=>intro s h;exact h
       | cons r rs ih=>intro s h;exact ih _ (FJ h)
     exact aux sl.1 s gK
   refine⟨fun σ' G'=>∃ ts u5 u6 u7,σ'=[some (.ref ls),some (.ref bk),some (.ref lg),some (.ref al),some (.int ((nxt kb (aM kb s sl.1) sl.2 i:Nat):Int)),u5,u6,u7]∧aD H G'∧G' lg=some (.lst ts)∧Paired (wF G') ts (aM kb s sl.1).L∧G' al=some (.lst ((aM kb s sl.1).l.map V.str))∧(aM kb s sl.1).ov=false,fun σ' G' z=>?_,?_⟩
   · obtain⟨ts,u5,u6,u7,e,z1,z2,z3,z4,z5⟩:=z
     have Xj:i<nxt kb (aM kb s sl.1) sl.2 i∧nxt kb (aM kb s sl.1) sl.2 i≤ss.length:=hnx
     have F':Fin kb (SS ss) (nxt kb (aM kb s sl.1) sl.2 i) (aM kb s sl.1) Lf:=F
     generalize nxt kb (aM kb s sl.1) sl.2 i=j at e Xj F'
     have Io:sl.1.length≤4:=Io
     exact⟨ss.length - j,by omega,_,ts,u5,u6,u7,j,e,Xj.2,rfl,z1,z2,z3,z4,hK2,z5,by omega,by omega,F'⟩
   refine⟨_,rfl,_,rfl,ls,_,_,_,rfl,rfl,bQ.of (sH _ _ hls),zX hx,ta,_,rfl,gf.of (sH _ _ t1),rfl,_,_,rfl,_,_,rfl,rfl,?_⟩
   dsimp only [bB,List.set_cons_succ,List.set_cons_zero]
   refine⟨_,rfl,_,rfl,_,rfl,_,rfl,?_⟩
   refine⟨l1,bk,al,lg,rs,sl.1,lb,kb,s,ts,rfl,sH _ _ t2,zJ t4 fun _ _=>Dh.same sH,Io,GK sH hb,hB,ga,gl,Ie,Sx,zC t2 Xi,zC t2 hlg,go,gK,by omega,by omega,fun ts' G' Fr' ga' gl' Xk gK'=>⟨_,rfl,?_⟩⟩
   have Di:aD H G':=fun b o hb'=>Fr' _ _ (sH _ _ hb') (O6 (zC hb' Xi) (zC hb' hlg))
   cases ho2:(aM kb s sl.1).ov with
   | true =>
     have e:=wu F ho2
     refine bU ⟨_,rfl,q lg ts' G' hlg Di gl' ?_⟩
     rw [e];exact Xk
   | false =>
     refine bN ?_
     refine⟨_,rfl,l2,rfl,⟨ws,bQ.of (Di _ _ t3)⟩,?_⟩
     have lw:=zL t5
     have Uw:sl.2.length≤4:=Uw
     refine pQ (xs:=ws) (zP (m:=1000) (by omega)) (fun j zs G2=>G'=G2∧zs=(je kb (aM kb s sl.1).l (sl.2.take j)).map fun a:Nat=>V.int (a:Int)) ⟨rfl,by rw [List.take_zero];rfl⟩ (fun j zs G2 hw=>by obtain⟨rfl,_⟩:=hw;exact bQ.of (Di _ _ t3)) (fun j x zs G2 hx2 hlen2 hw=>?_) (fun zs G2 hw p hp=>?_)
     · obtain⟨rfl,rfl⟩:=hw
       obtain⟨v,hv,va,y,rfl,v1,v2⟩:=yC t5 hx2
       refine⟨va,_,_,rfl,gf.of (Di _ _ v1),?_⟩
       refine⟨_,rfl,_,rfl,_,rfl,y,v.2,bk,lb,kb,al,(aM kb s sl.1).l,rfl,v2.same Di,GK Di hb,hB,ga',gK',_,rfl,?_⟩
       rw [LQ hv]
       cases hold kb (aM kb s sl.1).l v.2 with
       | true =>
         refine bU ⟨_,rfl,rfl,?_⟩
         rw [if_pos rfl,List.map_append];rfl
       | false =>
         refine bN ⟨rfl,?_⟩
         rw [if_neg (by decide),List.append_nil]
     · obtain⟨rfl,rfl⟩:=hw
       rw [lw,List.take_length]
       have hll:(je kb (aM kb s sl.1).l sl.2).length≤4:=Nat.le_trans O8 Uw
       have s6:=zH hp (.lst ((je kb (aM kb s sl.1).l sl.2).map fun a:Nat=>V.int (a:Int)))
       have e6:=zB (H:=G') (a:=p) (o:=.lst ((je kb (aM kb s sl.1).l sl.2).map fun a:Nat=>V.int (a:Int)))
       generalize upd G' p (.lst ((je kb (aM kb s sl.1).l sl.2).map fun a:Nat=>V.int (a:Int)))=G6 at s6 e6
       dsimp only [bB,List.set_cons_succ,List.set_cons_zero]
       refine⟨_,rfl,_,rfl,_,_,rfl,rfl,(by show 1≤sizeLine;decide),fun p7 hp7=>?_⟩
       have s7:=zH hp7 (.lst [.int ((i:Int)+1)])
       refine⟨p,p7,_,_,rfl,rfl,s7 _ _ e6,zB,zP (m:=1000) (by rw [List.length_map];show _+1≤1000;omega),fun p8 hp8=>?_⟩
       have s8:=zH hp8 (.lst (((je kb (aM kb s sl.1).l sl.2).map fun a:Nat=>V.int (a:Int))++[.int ((i:Int)+1)]))
       have s68:=(s6.trans s7).trans s8
       have eat:(((je kb (aM kb s sl.1).l sl.2).map fun a:Nat=>V.int (a:Int))++[.int ((i:Int)+1)])[0]? = some (.int ((nxt kb (aM kb s sl.1) sl.2 i:Nat):Int)):=by
         unfold nxt
         cases je kb (aM kb s sl.1).l sl.2 <;> rfl
       refine⟨p8,_,_,_,rfl,rfl,bQ.of zB,zX (j:=0) eat,?_⟩
       dsimp only [bB,List.set_cons_succ,List.set_cons_zero]
       exact⟨ts',_,_,_,rfl,Di.trans s68,s68 _ _ gl',zJ Xk fun _ _=>wF.same s68,s68 _ _ ga',rfl⟩
end
def Tq (H H':Hp):Prop:=∀ a t,H a=some (.tup t)→H' a=some (.tup t)
theorem Tq.of {H H':Hp} (s:aD H H'):Tq H H':=fun a t h=>s _ _ h
theorem Tq.trans {H H1 H2:Hp} (a:Tq H H1) (b:Tq H1 H2):Tq H H2:=fun x t h=>b x t (a x t h)
theorem Tq.upd {H:Hp}{m:Addr}{xs:List V} (h:H m=some (.lst xs)) (o:HO):Tq H (upd H m o):=fun a t ha=>by
 rw [zG (yL ha h (by intro z;cases z))];exact ha
theorem Lz.tq {H H':Hp} (f:Tq H H') {x:V}{s:Sg} (h:Lz H x s):Lz H' x s:=by
 cases s with
 | none=>exact h
 | some y=>obtain⟨a,e,h⟩:=h;exact⟨a,e,f _ _ h⟩
theorem Dh.tq {H H':Hp} (f:Tq H H') {x:V}{s:Rw} (h:Dh H x s):Dh H' x s:=by
 obtain⟨a,y,e,h1,h2⟩:=h
 exact⟨a,y,e,f _ _ h1,h2.tq f⟩
theorem Ip.tq {H H':Hp} (f:Tq H H') {x:V}{s:Wy} (h:Ip H x s):Ip H' x s:=by
 obtain⟨a,y,e,h1,h2⟩:=h
 exact⟨a,y,e,f _ _ h1,h2.tq f⟩
def Uz (ls al:Addr) (H:Hp) (x:V) (s:Ls):Prop:=∃ a l1 l2 xs ys,x=.ref a∧H a=some (.tup [.ref l1,.ref l2])∧H l1=some (.lst xs)∧H l2=some (.lst ys)∧Paired (Dh H) xs s.1∧Paired (Ip H) ys s.2∧l1≠ls∧l1≠al∧l2≠ls∧l2≠al
theorem Uz.r {ls al:Addr}{H:Hp}{x:V}{s:Ls} (h:Uz ls al H x s):Mp H x s:=by
 obtain⟨a,l1,l2,xs,ys,e,h1,h2,h3,h4,h5,_⟩:=h
 exact⟨a,l1,l2,xs,ys,e,h1,h2,h3,h4,h5⟩
theorem Uz.fr {ls al:Addr}{H H':Hp} (f:Tq H H') (F:Fr [ls,al] H H') {x:V}{s:Ls} (h:Uz ls al H x s):Uz ls al H' x s:=by
 obtain⟨a,l1,l2,xs,ys,e,h1,h2,h3,h4,h5,n1,n2,n3,n4⟩:=h
 exact⟨a,l1,l2,xs,ys,e,f _ _ h1,F _ _ h2 (O6 n1 n2),F _ _ h3 (O6 n3 n4),zJ h4 fun _ _=>Dh.tq f,zJ h5 fun _ _=>Ip.tq f,n1,n2,n3,n4⟩
structure WF (many:Nat) (ss:List Ls) (zs:List Str):Prop where
 rows:∀ s∈ss,s.1.length≤4
 ways:∀ s∈ss,s.2.length≤4
 sgR:∀ s∈ss,∀ r∈s.1,∀ y,r.sg=some y→y.n∈zs
 sgW:∀ s∈ss,∀ v∈s.2,∀ y,v.2=some y→y.n∈zs
 Ws:∀ (i:Nat) (s:Ls),ss[i]? = some s→∀ v∈s.2,i<v.1∧v.1≤many
 asks:∀ z∈zs,∃ s∈ss,∃ r∈s.1,r.Ak=false∧r.nm=z
theorem O9 {i j:Nat} (h:Fy i=Fy j):i=j:=by
 have e:=congrArg cd h
 unfold Fy at e
 rw [rH,rH] at e
 have e2:=List.append_cancel_left e
 have e3:[97+i]=[97+j]:=e2
 have:=List.head_eq_of_cons_eq e3
 omega
theorem Pa {i:Nat}:Fy i≠‹"end"›:=fun h=>by
 have e:=congrArg (fun s=>(cd s).head?) h
 unfold Fy at e
 rw [show cd (Str.ofString "sheet" ++ S [97+i])=cd ‹"sheet"› ++ cd (S [97+i]) from rH _ _] at e
 have e2:(cd ‹"sheet"› ++ cd (S [97+i])).head? = some 115:=by rw [show cd ‹"sheet"› = [115,104,101,101,116] by symm];rfl
 rw [e2,show cd ‹"end"› = [101,110,100] by symm] at e
 cases e
theorem WF.gs {many:Nat}{ss:List Ls}{zs:List Str} (h:WF many ss zs) (hl:ss.length=many) (h5:many≤5):GS (SS ss):=by
 have mem:∀ {s:kW},s∈SS ss→∃ i:Nat,∃ t:Ls,ss[i]? = some t∧s=(Fy i,t):=fun {s} hs=>by
   obtain⟨i,hi⟩:=List.mem_iff_getElem?.mp hs
   unfold SS at hi
   rw [List.getElem?_mapIdx] at hi
   cases e:ss[i]? with
   | none=>rw [e] at hi;cases hi
   | some t=>rw [e] at hi;cases hi;exact⟨i,t,e,rfl⟩
 have ask:∀ z∈zs,fU (SS ss) z:=fun z hz=>by
   obtain⟨s,hs,r,hr,c,e⟩:=h.asks z hz
   obtain⟨i,hi⟩:=List.mem_iff_getElem?.mp hs
   exact⟨_,List.mem_of_getElem? (wy hi),r,hr,c,e⟩
 refine⟨by rw [gQ];omega,fun s hs=>?_,fun s hs=>?_,fun s hs r hr y e=>?_,fun s hs v hv y e=>?_,fun i s hi v hv=>?_,?_⟩
 · obtain⟨i,t,ht,rfl⟩:=mem hs
   exact h.rows t (List.mem_of_getElem? ht)
 · obtain⟨i,t,ht,rfl⟩:=mem hs
   exact h.ways t (List.mem_of_getElem? ht)
 · obtain⟨i,t,ht,rfl⟩:=mem hs
   exact ask _ (h.sgR t (List.mem_of_getElem? ht) r hr y e)
 · obtain⟨i,t,ht,rfl⟩:=mem hs
   exact ask _ (h.sgW t (List.mem_of_getElem? ht) v hv y e)
 · unfold SS at hi
   rw [List.getElem?_mapIdx] at hi
   cases e:ss[i]? with
   | none=>rw [e] at hi;cases hi
   | some t =>
     rw [e] at hi;cases hi
     rw [gQ,hl]
     exact h.Ws i t e v hv
 · unfold fJ
   rw [List.nodup_append]
   refine⟨?_,List.nodup_cons.mpr ⟨by simp,List.nodup_nil⟩,fun a ha b hb e=>?_⟩
   · refine List.pairwise_iff_getElem.mpr fun i j hi hj hij=>?_
     intro e
     have gi:((SS ss).map (·.1))[i]? = some (Fy i):=by
       have hi':i<ss.length:=by rw [List.length_map,gQ] at hi;exact hi
       rw [List.getElem?_map,wy (List.getElem?_eq_getElem hi')];rfl
     have gj:((SS ss).map (·.1))[j]? = some (Fy j):=by
       have hj':j<ss.length:=by rw [List.length_map,gQ] at hj;exact hj
       rw [List.getElem?_map,wy (List.getElem?_eq_getElem hj')];rfl
     rw [List.getElem?_eq_getElem hi] at gi
     rw [List.getElem?_eq_getElem hj] at gj
     rw [Option.some.inj gi,Option.some.inj gj] at e
     have:=O9 e
     omega
   · rw [List.mem_singleton.mp hb] at e
     obtain⟨s,hs,rfl⟩:=List.mem_map.mp ha
     obtain⟨i,t,ht,rfl⟩:=mem hs
     exact Pa e
def Xl (K:W.Frag):Sp:=fun vs H Q _=>∃ (a:Addr) (ns:List Int),vs=[.ref a]∧bQ K H a (ns.map V.int)∧ns.length≤1000∧Ns ns∧∀ l xs ss H',H l=none→aD H H'→H' l=some (.lst xs)→Paired (Mp H') xs ss→GS (SS ss)→Q (.ref l) H'
theorem WF.more {many:Nat}{ss:List Ls}{zs pF:List Str}{s:Ls} (h:WF many ss zs) (hz:∀ z∈zs,z∈pF) (h1:s.1.length≤4) (h2:s.2.length≤4) (h3:∀ r∈s.1,∀ y,r.sg=some y→y.n∈pF) (h4:∀ v∈s.2,∀ y,v.2=some y→y.n∈pF)
   (h5:∀ v∈s.2,ss.length<v.1∧v.1≤many) (h6:∀ z∈pF,z∈zs∨∃ r∈s.1,r.Ak=false∧r.nm=z):WF many (ss++[s]) pF:=by
 have mem:∀ {t:Ls},t∈ss++[s]→t∈ss∨t=s:=fun {t} ht=>by
   rcases List.mem_append.mp ht with ht | ht
   · exact .inl ht
   · exact .inr (List.mem_singleton.mp ht)
 refine⟨fun t ht=>?_,fun t ht=>?_,fun t ht r hr y e=>?_,fun t ht v hv y e=>?_,fun i t hi v hv=>?_,fun z hz'=>?_⟩
 · rcases mem ht with ht | rfl
   · exact h.rows t ht
   · exact h1
 · rcases mem ht with ht | rfl
   · exact h.ways t ht
   · exact h2
 · rcases mem ht with ht | rfl
   · exact hz _ (h.sgR t ht r hr y e)
   · exact h3 r hr y e
 · rcases mem ht with ht | rfl
   · exact hz _ (h.sgW t ht v hv y e)
   · exact h4 v hv y e
 · by_cases c:i<ss.length
   · rw [List.getElem?_append_left c] at hi
     exact h.Ws i t hi v hv
   · rw [List.getElem?_append_right (by omega)] at hi
     have e:i=ss.length:=by
       have:=(List.getElem?_eq_some_iff.mp hi).1
       simp at this
       omega
     subst e
     simp at hi
     subst hi
     exact h5 v hv
 · rcases h6 z hz' with k | ⟨r,hr,k⟩
   · obtain⟨t,ht,k⟩:=h.asks z k
     exact⟨t,List.mem_append_left _ ht,k⟩
   · exact⟨s,List.mem_append_right _ (List.mem_singleton.mpr rfl),r,hr,k⟩
section
variable {P:Program}{w:World}{K:W.Frag}{mg:Str→Option Value}{base:Heap}{A:cJ}
theorem SM (T:Txt K mg A):bz P w K mg base bW 3 A.jc A.lV ["_law_script"] (Xl K):=by
 have dB:=oN (P:=P) (w:=w) (base:=base) T
 have FP:=CN (P:=P) (w:=w) (base:=base) T
 have rC:=O5 (P:=P) (w:=w) (base:=base) T
 refine T.Aa.ok bj (fun vs H Q E h=>?_) (fun cdv A0 outer s H vs Q E hr h=>?_)
 · obtain⟨a,ns,rfl,_⟩:=h
   rfl
 obtain⟨a,ns,rfl,hS,hl,hb,q⟩:=h
 refine⟨_,(zE (zU (i:=1) bj.nd rfl ‹0› (yR zD))
     (zE (zU (i:=2) bj.nd rfl ‹0› (yR zD))
     (zE (zU (i:=3) bj.nd rfl ‹0› (zM xA zI (zM yW (yF dB ‹hr› rfl T.fH T.fG T.fD .nil zN (zA (pv 0) (zA zI zD))) zI)))
     (zE (yP PassesOwn.never rfl (oV rfl T.uN (zA (pv 3) zD)) (zQ (i:=4) bj.nd rfl ‹0›) (zE (zU (i:=5) bj.nd rfl ‹0› (yR zD))
     (zE (yP PassesOwn.never rfl (oV rfl T.uN (zA (zM xA zI (zM yW (yF dB ‹hr› rfl T.fH T.fG T.fD .nil zN (zA (pv 0) (zA (zM xA zI (pv 4)) zD))) zI)) zD)) (zQ (i:=6) bj.nd rfl ‹0›) (zE (zU (i:=7) bj.nd rfl ‹0› (zM yW (yF dB ‹hr› rfl T.fH T.fG T.fD .nil zN (zA (pv 0) (zA (zM xA (zM xA zI (zM jL zI (pv 4))) (pv 6)) zD))) (zM Je zI zI)))
     (zE (zU (i:=8) bj.nd rfl ‹0› (yF FP ‹hr› rfl T.Ez T.Ey T.Ex .nil zN (zA (pv 0) (zA (zM xA (zM jL zI (pv 4)) (pv 6)) zD))))
     (zE (zU (i:=9) bj.nd rfl ‹0› (yF rC ‹hr› rfl T.qO T.qN T.qM .nil zN (zA (zM lq (pv 7) zI) (zA (pv 2) zD))))
     (zF (yH (PW.pt (rE (zZ jj (zM yW (pv 7) zI) zI (yE _)) (oU (zZ My (pv 9) jX (yE _))))) (zF (zR (xH PySem.F.plainAttrs_list PySem.F.slot_list_append PySem.F.type_list_append zY (pv 5) (zA (yN (zA zS (zA (pv 8) (zA (pv 9) (zA (iY jj (zM yW (zM lq (pv 7) zI) zI) zI (yE _)) zD))))) zD)))) (zE (zR (xH PySem.F.plainAttrs_list PySem.F.slot_list_append PySem.F.type_list_append zY (pv 5) (zA (yN (zA zS (zA (pv 8) (zA (pv 9) (zA mY zD))))) zD)))
     (zF (zR (xH PySem.F.plainAttrs_list PySem.F.slot_list_append PySem.F.type_list_append zY (pv 2) (zA (pv 8) zD)))))))))))
     (zE (zU (i:=10) bj.nd rfl ‹0› (yR zD))
     (zE (yP PassesOwn.never rfl (oV rfl T.uN (zA (zM yW (yF dB ‹hr› rfl T.fH T.fG T.fD .nil zN (zA (pv 0) (zA (zM xA zI (pv 4)) zD))) zI) zD)) (zQ (i:=11) bj.nd rfl ‹0›) (zE (zU (i:=7) bj.nd rfl ‹0› (zM yW (yF dB ‹hr› rfl T.fH T.fG T.fD .nil zN (zA (pv 0) (zA (zM xA (zM xA zI (zM jL zI (pv 4))) (pv 11)) zD))) (zM Je zI zI)))
     (zF (zR (xH PySem.F.plainAttrs_list PySem.F.slot_list_append PySem.F.type_list_append zY (pv 10) (zA (yN (zA (zM xA (zM xA (pv 4) zI) (zM yW (pv 7) (zM QS (pv 3) (pv 4)))) (zA (yF rC ‹hr› rfl T.qO T.qN T.qM .nil zN (zA (zM lq (pv 7) zI) (zA (pv 2) zD))) zD))) zD))))))
     (zF (zR (xH PySem.F.plainAttrs_list PySem.F.slot_list_append PySem.F.type_list_append zY (pv 1) (zA (yN (zA (pv 5) (zA (pv 10) zD))) zD)))))))))
     (zF (zO (pv 1))))))),?_⟩
 generalize h0:L2.start _ _=σ0
 have h0:σ0=[some (.ref a),none,none,none,none,none,none,none,none,none,none,none]:=by rw [← h0];rfl
 subst h0
 refine⟨(by show 0≤sizeLine;decide),fun ls hls=>?_⟩
 dsimp only [bB,List.set_cons_succ,List.set_cons_zero]
 have s1:=zH hls (.lst [])
 refine⟨(by show 0≤sizeLine;decide),fun al hal=>?_⟩
 dsimp only [bB,List.set_cons_succ,List.set_cons_zero]
 have s2:=zH hal (.lst [])
 have el:(upd (upd H ls (.lst [])) al (.lst [])) ls=some (.lst []):=s2 _ _ zB
 have ea:(upd (upd H ls (.lst [])) al (.lst [])) al=some (.lst []):=zB
 have Xi:H al=none:=(xG hal).2
 have Sx:al≠ls:=(xG hal).1
 have s12:=s1.trans s2
 generalize upd (upd H ls (.lst [])) al (.lst [])=H1 at s12 el ea
 have d0:=Int.emod_nonneg (dj ns 1) (b:=4) (by decide)
 have d1:=Int.emod_lt_of_pos (dj ns 1) (b:=4) (by decide)
 refine⟨_,rfl,a,ns,1,rfl,s12.seq hS,by decide,hl,hb,_,_,rfl,rfl,(show (0:Int)<4 by decide),_,_,rfl,rfl,?_⟩
 dsimp only [bB,List.set_cons_succ,List.set_cons_zero]
 obtain⟨N,hN,hN5,hN2⟩:∃ N:Nat,(2+dj ns 1 % 4:Int)=(N:Int)∧N≤5∧2≤N:=⟨(2+dj ns 1 % 4).toNat,by omega,by omega,by omega⟩
 rw [hN]
 refine⟨_,rfl,_,rfl,(by omega),(by omega),?_⟩
 rw [Int.toNat_natCast]
 have SN:∀ {G:Hp},Fr [ls,al] H1 G→aD H G:=fun {G} F b o hb'=>F _ _ (s12 _ _ hb') (O6 (zC hb' hls) (zC hb' Xi))
 refine lB (fun i σ G=>∃ u4 u5 u6 u7 u8 u9 wz Ir xs ss,∃ zs:List Str,σ=[some (.ref a),some (.ref ls),some (.ref al),some (.int (N:Int)),u4,u5,u6,u7,u8,u9,wz,Ir]∧Fr [ls,al] H1 G∧G ls=some (.lst xs)∧Paired (Uz ls al G) xs ss∧G al=some (.lst (zs.map V.str))∧zs.length≤4*i∧ss.length=i∧WF N ss zs) ⟨_,_,_,_,_,_,_,_,[],[],[],rfl,Fr.of (aD.refl _),el,.nil,ea,Nat.zero_le _,rfl,⟨(fun _ h=>by cases h),(fun _ h=>by cases h),(fun _ h=>by cases h),(fun _ h=>by cases h),(fun _ _ h=>by simp at h),fun _ h=>by cases h⟩⟩ (fun i σ G hi hw=>?_) (fun σ G hw=>?_)
 rotate_left
 · obtain⟨_,_,_,_,_,_,_,_,xs,ss,zs,rfl,F,gl,hp,ga,hz,hs,hW⟩:=hw
   exact⟨_,rfl,q ls xs ss G hls (SN F) gl (zJ hp fun _ _ x=>x.r) (hW.gs hs hN5)⟩
 obtain⟨u4,u5,u6,u7,u8,u9,wz,Ir,xs,ss,zs,rfl,F,gl,hp,ga,hz,hs,hW⟩:=hw
 have sG:=SN F
 have lxs:=zL hp
 dsimp only [bB,List.set_cons_succ,List.set_cons_zero]
 refine⟨(by show 0≤sizeLine;decide),fun lr hlr=>?_⟩
 dsimp only [bB,List.set_cons_succ,List.set_cons_zero]
 have s3:=zH hlr (.lst [])
 have er:(upd G lr (.lst [])) lr=some (.lst []):=zB
 have Xg:ls≠lr:=zC gl hlr
 have Uy:al≠lr:=zC ga hlr
 generalize upd G lr (.lst [])=G1 at s3 er
 have hi5:i<5:=by omega
 have i0:(0+(i:Nat):Int)=(i:Int):=by omega
 rw [i0]
 refine mG (fun σ' G'=>∃ u6 u7 u8 u9 ys rs,∃ pF:List Str,σ'=[some (.ref a),some (.ref ls),some (.ref al),some (.int (N:Int)),some (.int (i:Int)),some (.ref lr),u6,u7,u8,u9,wz,Ir]∧Fr [al,lr] G1 G'∧Tq G1 G'∧G' lr=some (.lst ys)∧Paired (Dh G') ys rs∧G' al=some (.lst (pF.map V.str))∧pF.length≤4*i+4∧rs.length≤4∧(∀ z∈zs,z∈pF)∧(∀ r∈rs,∀ y,r.sg=some y→y.n∈pF)∧(∀ z∈pF,z∈zs∨∃ r∈rs,r.Ak=false∧r.nm=z)) (fun σ' G' hR=>?_) (fun _ hk2=>?_)
 · obtain⟨u6,u7,u8,u9,ys,rs,pF,rfl,F1,T1,gr,hys,Pb,hz1,Io,hsub,hsg,FQ⟩:=hR
   refine⟨(by show 0≤sizeLine;decide),fun lw Ig=>?_⟩
   dsimp only [bB,List.set_cons_succ,List.set_cons_zero]
   have s4:=zH Ig (.lst [])
   have ew:(upd G' lw (.lst [])) lw=some (.lst []):=zB
   have Xm:G' ls=some (.lst xs):=F1 _ _ (s3 _ _ gl) (O6 (Ne.symm Sx) Xg)
   have nwl:ls≠lw:=zC Xm Ig
   have nwa:al≠lw:=zC Pb Ig
   have nwr:lr≠lw:=zC gr Ig
   have FG1:Fr [ls,al] G G':=fun b o hb' hn=>F1 _ _ (s3 _ _ hb') (O6 (fun e=>hn (by rw [e];exact List.mem_cons_of_mem _ (List.mem_singleton.mpr rfl))) (zC hb' hlr))
   have Xn:aD H G':=SN (F.trans FG1)
   generalize upd G' lw (.lst [])=G2 at s4 ew
   have Xo:=Xn.trans s4
   refine mG (fun σ' G3=>∃ u7 Ir ws vs,σ'=[some (.ref a),some (.ref ls),some (.ref al),some (.int (N:Int)),some (.int (i:Int)),some (.ref lr),u6,u7,u8,u9,some (.ref lw),Ir]∧Fr [lw] G2 G3∧Tq G2 G3∧G3 lw=some (.lst ws)∧Paired (Ip G3) ws vs∧vs.length≤4∧(∀ v∈vs,∀ y,v.2=some y→y.n∈pF)∧(∀ v∈vs,i<v.1∧v.1≤N)) (fun σ' G3 hR=>?_) (fun _ hk3=>?_)
   · obtain⟨u7,Ir,ws,vs,rfl,F3,T3,gw,hws,hv4,hvs,hva⟩:=hR
     have gl3:G3 ls=some (.lst xs):=F3 _ _ (s4 _ _ Xm) (fW nwl)
     refine⟨_,rfl,.inl ⟨rfl,_,bQ.of gl3⟩,_,rfl,_,rfl,(by show 2≤sizeLine;decide),fun t ht=>?_⟩
     have s5:=zH ht (.tup [.ref lr,.ref lw])
     have gl5:=s5 _ _ gl3
     refine⟨ls,_,_,rfl,rfl,gl5,zP (m:=100) (by omega),?_⟩
     have wA:∀ {o:HO},Tq (upd G3 t (.tup [.ref lr,.ref lw])) (upd (upd G3 t (.tup [.ref lr,.ref lw])) ls o):=fun {o}=>Tq.upd gl5 o
     have Xp:Fr [ls,al] G (upd (upd G3 t (.tup [.ref lr,.ref lw])) ls (.lst (xs++[.ref t]))):=fun b o hb' hn=>by
       rw [zG (fun e=>hn (by rw [e];exact List.mem_cons_self))]
       have hb2:=FG1 _ _ hb' hn
       exact s5 _ _ (F3 _ _ (s4 _ _ hb2) (fW (zC hb2 Ig)))
     have afx:Tq G (upd (upd G3 t (.tup [.ref lr,.ref lw])) ls (.lst (xs++[.ref t]))):=(((((Tq.of s3).trans T1).trans (Tq.of s4)).trans T3).trans (Tq.of s5)).trans wA
     have gr3:G3 lr=some (.lst ys):=F3 _ _ (s4 _ _ gr) (fW nwr)
     have ga3:G3 al=some (.lst (pF.map V.str)):=F3 _ _ (s4 _ _ Pb) (fW nwa)
     have ntl:t≠ls:=Ne.symm (zC gl3 ht)
     refine⟨_,_,_,_,_,_,_,_,xs++[.ref t],ss++[(rs,vs)],pF,rfl,F.trans Xp,zB,yO (zJ hp fun _ _ x=>x.fr afx Xp) (.cons ⟨t,lr,lw,ys,ws,rfl,by rw [zG ntl];exact zB,by rw [zG (Ne.symm Xg)];exact s5 _ _ gr3,by rw [zG (Ne.symm nwl)];exact s5 _ _ gw,zJ hys fun _ _ x=>x.tq ((((Tq.of s4).trans T3).trans (Tq.of s5)).trans wA),zJ hws fun _ _ x=>x.tq ((Tq.of s5).trans wA),Ne.symm Xg,Ne.symm Uy,Ne.symm nwl,Ne.symm nwa⟩ .nil),by rw [zG Sx];exact s5 _ _ ga3,by omega,by rw [List.length_append,hs];rfl,hW.more hsub Io hv4 hsg hvs (by rw [hs];exact hva) FQ⟩
   ·
     have e0:=Int.emod_nonneg (dj ns (28+i)) (b:=5) (by decide)
     have e1:=Int.emod_lt_of_pos (dj ns (28+i)) (b:=5) (by decide)
     refine⟨_,rfl,_,rfl,_,_,rfl,rfl,a,ns,28+i,(by dsimp only;rw [show ((28:Int)+(i:Int))=((28+i:Nat):Int) by omega];rfl),Xo.seq hS,(by omega),hl,hb,_,_,rfl,rfl,(show (0:Int)<5 by decide),_,rfl,(by omega),(by omega),?_⟩
     obtain⟨nk,hnk,afA⟩:∃ nk:Nat,(dj ns (28+i) % 5).toNat=nk∧nk≤4:=⟨_,rfl,by omega⟩
     rw [hnk]
     refine lB (fun k σ G3=>∃ u7 Ir ws vs,σ=[some (.ref a),some (.ref ls),some (.ref al),some (.int (N:Int)),some (.int (i:Int)),some (.ref lr),u6,u7,u8,u9,some (.ref lw),Ir]∧Fr [lw] G2 G3∧Tq G2 G3∧G3 lw=some (.lst ws)∧Paired (Ip G3) ws vs∧vs.length=k∧(∀ v∈vs,∀ y,v.2=some y→y.n∈pF)∧(∀ v∈vs,i<v.1∧v.1≤N)) ⟨_,_,[],[],rfl,Fr.of (aD.refl _),Tq.of (aD.refl _),ew,.nil,rfl,(fun _ h=>by cases h),fun _ h=>by cases h⟩ (fun k σ G3 hk hw=>?_) (fun σ G3 hw=>?_)
     rotate_left
     · obtain⟨u7,Ir,ws,vs,rfl,F3,T3,gw,hws,hv,hvs,hva⟩:=hw
       exact hk3 _ _ ⟨u7,Ir,ws,vs,rfl,F3,T3,gw,hws,by omega,hvs,hva⟩
     obtain⟨u7,Ir,ws,vs,rfl,F3,T3,gw,hws,hv,hvs,hva⟩:=hw
     have lws:=zL hws
     dsimp only [bB,List.set_cons_succ,List.set_cons_zero]
     have k0:(0+(k:Nat):Int)=(k:Int):=by omega
     rw [k0]
     have Xq:aD H G3:=fun b o hb'=>F3 _ _ (Xo _ _ hb') (fW (zC (Xn _ _ hb') Ig))
     have f0:=Int.emod_nonneg (dj ns (33+4*i+k)) (b:=10 ^ 40) (by decide)
     have f1:=Int.emod_lt_of_pos (dj ns (33+4*i+k)) (b:=10 ^ 40) (by decide)
     refine⟨_,rfl,_,rfl,_,_,rfl,rfl,⟨q9 (by decide) (by decide),q9 (by omega) (by omega)⟩,_,_,rfl,rfl,_,rfl,_,_,rfl,rfl,a,ns,33+4*i+k,(by dsimp only;rw [show ((33:Int)+4*(i:Int)+(k:Int))=((33+4*i+k:Nat):Int) by omega];rfl),Xq.seq hS,(by omega),hl,hb,_,_,rfl,rfl,⟨by decide,by decide⟩,_,_,rfl,rfl,(show (0:Int)<10 ^ 40 by decide),?_⟩
     dsimp only [bB,List.set_cons_succ,List.set_cons_zero]
     generalize hc:dj ns (33+4*i+k) % 10 ^ Int.toNat 40=c
     have hc:dj ns (33+4*i+k) % 10 ^ 40=c:=hc
     rw [hc] at f0 f1
     have m0:=Int.emod_nonneg c (b:=(N:Int) - (i:Int)) (by omega)
     have m1:=Int.emod_lt_of_pos c (b:=(N:Int) - (i:Int)) (by omega)
     have ga3:G3 al=some (.lst (pF.map V.str)):=F3 _ _ (s4 _ _ Pb) (fW nwa)
     refine⟨_,rfl,.inl ⟨rfl,_,bQ.of gw⟩,_,rfl,_,_,rfl,rfl,_,rfl,_,rfl,_,rfl,_,_,rfl,rfl,_,_,rfl,rfl,(show (0:Int)<(N:Int) - (i:Int) by omega),_,_,rfl,rfl,?_⟩
     refine⟨_,rfl,_,_,rfl,rfl,⟨(show (0:Int)<5 by decide),(show (5:Int)<1073741824 by decide)⟩,_,rfl,_,al,pF,rfl,ga3,by omega,fun x sg G4 s6 hx SQ=>?_⟩
     refine⟨(by show 2≤sizeLine;decide),fun t ht=>?_⟩
     obtain⟨av,hav⟩:∃ av:Nat,((i:Int)+1+c % ((N:Int) - (i:Int)))=(av:Int):=⟨((i:Int)+1+c % ((N:Int) - (i:Int))).toNat,by omega⟩
     have s7:=zH ht (.tup [.int ((i:Int)+1+c % ((N:Int) - (i:Int))),x])
     have Mq:=s6.trans s7
     have gw7:=Mq _ _ gw
     refine⟨lw,_,_,rfl,rfl,gw7,zP (m:=100) (by omega),?_⟩
     have wA:∀ {o:HO},Tq (upd G4 t (.tup [.int ((i:Int)+1+c % ((N:Int) - (i:Int))),x])) (upd (upd G4 t (.tup [.int ((i:Int)+1+c % ((N:Int) - (i:Int))),x])) lw o):=fun {o}=>Tq.upd gw7 o
     have ntw:t≠lw:=Ne.symm (zC (s6 _ _ gw) ht)
     refine⟨_,_,ws++[.ref t],vs++[(av,sg)],rfl,(F3.trans (Fr.of Mq)).upd (List.mem_singleton.mpr rfl) _,(T3.trans (Tq.of Mq)).trans wA,zB,yO (zJ hws fun _ _ z=>z.tq ((Tq.of Mq).trans wA)) (.cons ⟨t,x,rfl,by rw [zG ntw,zB];show some (HO.tup [V.int ((i:Int)+1+c % ((N:Int) - (i:Int))),x])=_;rw [hav],(hx.same s7).tq wA⟩ .nil),by rw [List.length_append,hv];rfl,fun v hv' y e=>?_,fun v hv'=>?_⟩
     · rcases List.mem_append.mp hv' with hv' | hv'
       · exact hvs v hv' y e
       · rw [List.mem_singleton.mp hv'] at e;exact SQ y e
     · rcases List.mem_append.mp hv' with hv' | hv'
       · exact hva v hv'
       · rw [List.mem_singleton.mp hv']
         show i<av∧av≤N
         omega
 · have e0:=Int.emod_nonneg (dj ns (2+i)) (b:=4) (by decide)
   have e1:=Int.emod_lt_of_pos (dj ns (2+i)) (b:=4) (by decide)
   have Xr:=sG.trans s3
   refine⟨_,rfl,_,rfl,_,_,rfl,rfl,a,ns,2+i,(by dsimp only;rw [show ((2:Int)+(i:Int))=((2+i:Nat):Int) by omega];rfl),Xr.seq hS,(by omega),hl,hb,_,_,rfl,rfl,(show (0:Int)<4 by decide),_,_,rfl,rfl,_,rfl,(by omega),(by omega),?_⟩
   obtain⟨nk,hnk,afA⟩:∃ nk:Nat,(1+dj ns (2+i) % 4).toNat=nk∧nk≤4:=⟨_,rfl,by omega⟩
   rw [hnk]
   refine lB (fun k σ G'=>∃ u6 u7 u8 u9 ys rs,∃ pF:List Str,σ=[some (.ref a),some (.ref ls),some (.ref al),some (.int (N:Int)),some (.int (i:Int)),some (.ref lr),u6,u7,u8,u9,wz,Ir]∧Fr [al,lr] G1 G'∧Tq G1 G'∧G' lr=some (.lst ys)∧Paired (Dh G') ys rs∧G' al=some (.lst (pF.map V.str))∧pF.length≤4*i+k∧rs.length=k∧(∀ z∈zs,z∈pF)∧(∀ r∈rs,∀ y,r.sg=some y→y.n∈pF)∧(∀ z∈pF,z∈zs∨∃ r∈rs,r.Ak=false∧r.nm=z)) ⟨_,_,_,_,[],[],zs,rfl,Fr.of (aD.refl _),Tq.of (aD.refl _),er,.nil,s3 _ _ ga,hz,rfl,(fun _ h=>h),(fun _ h=>by cases h),fun _ h=>.inl h⟩ (fun k σ G' hk hw=>?_) (fun σ G' hw=>?_)
   rotate_left
   · obtain⟨u6,u7,u8,u9,ys,rs,pF,rfl,F1,T1,gr,hys,Pb,hz1,Io,hsub,hsg,FQ⟩:=hw
     exact hk2 _ _ ⟨u6,u7,u8,u9,ys,rs,pF,rfl,F1,T1,gr,hys,Pb,by omega,by omega,hsub,hsg,FQ⟩
   obtain⟨u6,u7,u8,u9,ys,rs,pF,rfl,F1,T1,gr,hys,Pb,hz1,hrk,hsub,hsg,FQ⟩:=hw
   have lys:=zL hys
   dsimp only [bB,List.set_cons_succ,List.set_cons_zero]
   have k0:(0+(k:Nat):Int)=(k:Int):=by omega
   rw [k0]
   have sH1:aD H G':=fun b o hb'=>F1 _ _ (Xr _ _ hb') (O6 (zC hb' Xi) (zC (sG _ _ hb') hlr))
   have f0:=Int.emod_nonneg (dj ns (8+4*i+k)) (b:=10 ^ 40) (by decide)
   have f1:=Int.emod_lt_of_pos (dj ns (8+4*i+k)) (b:=10 ^ 40) (by decide)
   refine⟨_,rfl,_,rfl,_,_,rfl,rfl,⟨q9 (by decide) (by decide),q9 (by omega) (by omega)⟩,_,_,rfl,rfl,_,rfl,_,_,rfl,rfl,a,ns,8+4*i+k,(by dsimp only;rw [show ((8:Int)+4*(i:Int)+(k:Int))=((8+4*i+k:Nat):Int) by omega];rfl),sH1.seq hS,(by omega),hl,hb,_,_,rfl,rfl,⟨by decide,by decide⟩,_,_,rfl,rfl,(show (0:Int)<10 ^ 40 by decide),?_⟩
   dsimp only [bB,List.set_cons_succ,List.set_cons_zero]
   generalize hc:dj ns (8+4*i+k) % 10 ^ Int.toNat 40=c
   have hc:dj ns (8+4*i+k) % 10 ^ 40=c:=hc
   rw [hc] at f0 f1
   refine⟨_,rfl,_,rfl,_,_,rfl,rfl,⟨q9 (by decide) (by decide),q9 (by omega) (by omega)⟩,_,rfl,_,_,rfl,rfl,a,ns,4*i+k,(by dsimp only;rw [show (4*(i:Int)+(k:Int))=((4*i+k:Nat):Int) by omega];rfl),sH1.seq hS,(by omega),hl,hb,?_⟩
   dsimp only [bB,List.set_cons_succ,List.set_cons_zero]
   generalize nmF (dj ns 0) (4*i+k)=nm
   refine⟨_,rfl,_,_,rfl,rfl,⟨(show (0:Int)<3 by decide),(show (3:Int)<1073741824 by decide)⟩,_,rfl,_,al,pF,rfl,Pb,by omega,fun x sg G4 s6 hx SQ=>?_⟩
   dsimp only [bB,List.set_cons_succ,List.set_cons_zero]
   have SX:=s6 _ _ gr
   have ga6:=s6 _ _ Pb
   have row:∀ (r:Rw) (t:Addr) (el:List V),el=[.str (Xb r.Ak),.str r.nm,x,.bl r.firm]→G4 t=none→r.sg=sg→∀ G5,G5=upd (upd G4 t (.tup el)) lr (.lst (ys++[.ref t])) →
       Fr [al,lr] G1 G5∧Tq G1 G5∧G5 lr=some (.lst (ys++[.ref t]))∧Paired (Dh G5) (ys++[.ref t]) (rs++[r])∧G5 al=some (.lst (pF.map V.str)):=by
     intro r t el hel ht e G5 eG
     subst hel
     subst eG
     have s7:=zH ht (.tup [.str (Xb r.Ak),.str r.nm,x,.bl r.firm])
     have Mq:=s6.trans s7
     have gr7:=Mq _ _ gr
     have wA:∀ {o:HO},Tq (upd G4 t (.tup [.str (Xb r.Ak),.str r.nm,x,.bl r.firm])) (upd (upd G4 t (.tup [.str (Xb r.Ak),.str r.nm,x,.bl r.firm])) lr o):=fun {o}=>Tq.upd gr7 o
     have ntr:t≠lr:=Ne.symm (zC SX ht)
     exact⟨(F1.trans (Fr.of Mq)).upd (List.mem_cons_of_mem _ (List.mem_singleton.mpr rfl)) _,(T1.trans (Tq.of Mq)).trans wA,zB,yO (zJ hys fun _ _ z=>z.tq ((Tq.of Mq).trans wA)) (.cons ⟨t,x,rfl,by rw [zG ntr];exact zB,by rw [e];exact (hx.same s7).tq wA⟩ .nil),by rw [zG Uy];exact Mq _ _ Pb⟩
   have S5:∀ (r:Rw) (zz:List Str),r.sg=sg→(∀ z∈pF,z∈zz)→∀ r'∈rs++[r],∀ y,r'.sg=some y→y.n∈zz:=fun r zz e hzz r' hr' y e'=>by
     rcases List.mem_append.mp hr' with hr' | hr'
     · exact hzz _ (hsg r' hr' y e')
     · rw [List.mem_singleton.mp hr',e] at e';exact hzz _ (SQ y e')
   have Ih:ys.length<sizeLine:=zP (m:=100) (by omega)
   refine⟨_,rfl,_,_,rfl,rfl,(show (0:Int)<3 by decide),rfl,_,rfl,?_⟩
   by_cases h3:c % 3=0
   · refine Wn (decide_eq_true (by show V.int (c % 3)=V.int 0;rw [h3])) ?_
     refine⟨_,rfl,rfl,_,rfl,?_⟩
     cases sg with
     | none =>
       have hx':x=.non:=hx
       subst hx'
       refine bN ⟨_,rfl,.inl ⟨rfl,_,bQ.of SX⟩,_,rfl,_,rfl,(by show 4≤sizeLine;decide),fun t ht=>?_⟩
       obtain⟨z1,z2,z3,z4,z5⟩:=row ⟨false,nm,none,false⟩ t [.str ‹"ask"›,.str nm,.non,.bl false] rfl ht rfl _ rfl
       refine⟨lr,_,_,rfl,rfl,zH ht _ _ _ SX,Ih,?_⟩
       refine⟨_,rfl,.inl ⟨rfl,_,bQ.of z5⟩,_,rfl,al,_,_,rfl,rfl,z5,zP (m:=100) (by rw [List.length_map];omega),?_⟩
       refine⟨_,_,_,_,ys++[.ref t],rs++[⟨false,nm,none,false⟩],pF++[nm],rfl,z1.upd List.mem_cons_self _,z2.trans (Tq.upd z5 _),by rw [zG (Ne.symm Uy)];exact z3,zJ z4 fun _ _ x=>x.tq (Tq.upd z5 _),by rw [zB,List.map_append];rfl,by rw [List.length_append];show _+1≤_;omega,by rw [List.length_append,hrk];rfl,fun z hz'=>List.mem_append_left _ (hsub z hz'),S5 _ _ rfl (fun z hz'=>List.mem_append_left _ hz'),fun z hz'=>?_⟩
       rcases List.mem_append.mp hz' with hz' | hz'
       · rcases FQ z hz' with k | ⟨r,hr',k⟩
         · exact .inl k
         · exact .inr ⟨r,List.mem_append_left _ hr',k⟩
       · exact .inr ⟨⟨false,nm,none,false⟩,List.mem_append_right _ (List.mem_singleton.mpr rfl),rfl,(List.mem_singleton.mp hz').symm⟩
     | some y0 =>
       obtain⟨xa,rfl,hx2⟩:=id hx
       refine bU ⟨_,rfl,.inl ⟨rfl,_,bQ.of SX⟩,_,rfl,_,rfl,_,rfl,_,_,rfl,rfl,⟨(show (0:Int)<3 by decide),(show (3:Int)<1073741824 by decide)⟩,_,_,rfl,rfl,(show (0:Int)<2 by decide),rfl,(by show 4≤sizeLine;decide),fun t ht=>?_⟩
       obtain⟨z1,z2,z3,z4,z5⟩:=row ⟨true,nm,some y0,decide (V.int (c / 3 % 2)=V.int 0)⟩ t [.str ‹"check"›,.str nm,.ref xa,.bl (decide (V.int (c / 3 % 2)=V.int 0))] rfl ht rfl _ rfl
       refine⟨lr,_,_,rfl,rfl,zH ht _ _ _ SX,Ih,?_⟩
       refine⟨_,_,_,_,ys++[.ref t],rs++[⟨true,nm,some y0,decide (V.int (c / 3 % 2)=V.int 0)⟩],pF,rfl,z1,z2,z3,z4,z5,by omega,by rw [List.length_append,hrk];rfl,hsub,S5 _ _ rfl (fun z hz'=>hz'),fun z hz'=>?_⟩
       rcases FQ z hz' with k | ⟨r,hr',k⟩
       · exact .inl k
       · exact .inr ⟨r,List.mem_append_left _ hr',k⟩
   · refine Od (decide_eq_false fun e=>h3 (V.int.inj e)) ?_
     refine bN ⟨_,rfl,.inl ⟨rfl,_,bQ.of SX⟩,_,rfl,_,rfl,(by show 4≤sizeLine;decide),fun t ht=>?_⟩
     obtain⟨z1,z2,z3,z4,z5⟩:=row ⟨false,nm,sg,false⟩ t [.str ‹"ask"›,.str nm,x,.bl false] rfl ht rfl _ rfl
     refine⟨lr,_,_,rfl,rfl,zH ht _ _ _ SX,Ih,?_⟩
     refine⟨_,rfl,.inl ⟨rfl,_,bQ.of z5⟩,_,rfl,al,_,_,rfl,rfl,z5,zP (m:=100) (by rw [List.length_map];omega),?_⟩
     refine⟨_,_,_,_,ys++[.ref t],rs++[⟨false,nm,sg,false⟩],pF++[nm],rfl,z1.upd List.mem_cons_self _,z2.trans (Tq.upd z5 _),by rw [zG (Ne.symm Uy)];exact z3,zJ z4 fun _ _ x=>x.tq (Tq.upd z5 _),by rw [zB,List.map_append];rfl,by rw [List.length_append];show _+1≤_;omega,by rw [List.length_append,hrk];rfl,fun z hz'=>List.mem_append_left _ (hsub z hz'),S5 _ _ rfl (fun z hz'=>List.mem_append_left _ hz'),fun z hz'=>?_⟩
     rcases List.mem_append.mp hz' with hz' | hz'
     · rcases FQ z hz' with k | ⟨r,hr',k⟩
       · exact .inl k
       · exact .inr ⟨r,List.mem_append_left _ hr',k⟩
     · exact .inr ⟨⟨false,nm,sg,false⟩,List.mem_append_right _ (List.mem_singleton.mpr rfl),rfl,(List.mem_singleton.mp hz').symm⟩
end
def Kr (H H':Hp):Prop:=∀ b o,H b=some o→(∀ q,o≠.lst q)→H' b=some o
theorem Kr.of {H H':Hp} (s:aD H H'):Kr H H':=fun b o h _=>s b o h
theorem Kr.trans {H H1 H2:Hp} (a:Kr H H1) (b:Kr H1 H2):Kr H H2:=fun x o h p=>b x o (a x o h p) p
theorem Kr.upd {H:Hp}{m:Addr}{xs:List V} (h:H m=some (.lst xs)) (o:HO):Kr H (upd H m o):=fun a t ha hn=>by
 rw [zG (yL ha h (hn _))];exact ha
theorem Fj.kr {A:cJ}{H H':Hp} (k:Kr H H') {f:Bool}{x:V}{s:Sy} (h:Fj A H f x s):Fj A H' f x s:=by
 cases s with
 | yes n=>obtain⟨a,dx,e,h⟩:=h;exact⟨a,dx,e,k _ _ h (fun _ z=>by cases z)⟩
 | no n=>obtain⟨a,dx,e,h⟩:=h;exact⟨a,dx,e,k _ _ h (fun _ z=>by cases z)⟩
 | nt n=>obtain⟨a,dx,b,db,e,h,h'⟩:=h;exact⟨a,dx,b,db,e,k _ _ h (fun _ z=>by cases z),k _ _ h' (fun _ z=>by cases z)⟩
theorem Le.kr {A:cJ}{H H':Hp} (k:Kr H H') {x:V}{s:Sg} (h:Le A H x s):Le A H' x s:=by
 cases s with
 | none=>exact h
 | some s=>exact Fj.kr k h
theorem Fl.kr {A:cJ}{H H':Hp} (f:Kr H H') {x:V}{r:Rw} (h:Fl A H x r):Fl A H' x r:=by
 obtain⟨a,dx,y,e,h1,h2⟩:=h
 refine⟨a,dx,y,e,h1.kr f,?_⟩
 rcases h2 with ⟨c,h2⟩ | ⟨c,k,dk,h2,h3⟩
 · exact .inl ⟨c,f _ _ h2 (fun _ z=>by cases z)⟩
 · exact .inr ⟨c,k,dk,f _ _ h2 (fun _ z=>by cases z),f _ _ h3 (fun _ z=>by cases z)⟩
theorem Il.kr {A:cJ}{nms:List Str}{H H':Hp} (f:Kr H H') {x:V}{r:Wy} (h:Il A nms H x r):Il A nms H' x r:=by
 obtain⟨a,y,t,e,h1,h2,h3⟩:=h
 exact⟨a,y,t,e,f _ _ h1 (fun _ z=>by cases z),h2,h3.kr f⟩
def UG (A:cJ) (nms:List Str) (lm:Addr) (H:Hp) (x:V) (s:kW):Prop:=∃ a dx q1 q2 xs ys,x=.ref a∧H a=some (oSh A dx (.str s.1) .non q1 q2)∧H q1=some (.lst xs)∧H q2=some (.lst ys)∧Paired (Fl A H) xs s.2.1∧Paired (Il A nms H) ys s.2.2∧q1≠lm∧q2≠lm
theorem UG.r {A:cJ}{nms:List Str}{lm:Addr}{H:Hp}{x:V}{s:kW} (h:UG A nms lm H x s):Oi A nms H x s:=by
 obtain⟨a,dx,q1,q2,xs,ys,e,h1,h2,h3,h4,h5,_⟩:=h
 exact⟨a,dx,q1,q2,xs,ys,e,h1,h2,h3,h4,h5⟩
theorem UG.fr {A:cJ}{nms:List Str}{lm:Addr}{H H':Hp} (F:Fr [lm] H H') (k:Kr H H') {x:V}{s:kW} (h:UG A nms lm H x s):UG A nms lm H' x s:=by
 obtain⟨a,dx,q1,q2,xs,ys,e,h1,h2,h3,h4,h5,n1,n2⟩:=h
 exact⟨a,dx,q1,q2,xs,ys,e,k _ _ h1 (fun _ z=>by cases z),F _ _ h2 (fW n1),F _ _ h3 (fW n2),zJ h4 fun _ _=>Fl.kr k,zJ h5 fun _ _=>Il.kr k,n1,n2⟩
def Xu (A:cJ):Sp:=fun vs H Q _=>∃ ls xs ss,vs=[.ref ls]∧H ls=some (.lst xs)∧Paired (Mp H) xs ss∧GS (SS ss)∧∀ pa H',aD H H'→Lg A H' pa (SS ss)→Q (.ref pa) H'
theorem signs:cd ‹"abcde"› = [97,98,99,100,101]:=by symm
theorem Pg {i:Nat} (h:i<5):Jo ‹"abcde"›.cps.toList (i:Int)=some (97+i):=by
 have e:‹"abcde"›.cps.toList=[97,98,99,100,101]:=signs
 rw [e]
 refine zX ?_
 match i,h with
 | 0,_=>rfl
 | 1,_=>rfl
 | 2,_=>rfl
 | 3,_=>rfl
 | 4,_=>rfl
theorem Ph {n:Nat} (h:n≤5):JC (cd ‹"abcde"›) none (some (n:Int))=(List.range n).map (97+·):=by
 rw [signs]
 match n,h with
 | 0,_=>rfl
 | 1,_=>rfl
 | 2,_=>rfl
 | 3,_=>rfl
 | 4,_=>rfl
 | 5,_=>rfl
theorem LR (ss:List Ls):fJ (SS ss)=((List.range ss.length).map Fy)++[‹"end"›]:=by
 unfold fJ
 congr 1
 refine List.ext_getElem? fun i=>?_
 rw [List.getElem?_map,List.getElem?_map]
 by_cases h:i<ss.length
 · rw [wy (List.getElem?_eq_getElem h),List.getElem?_range h];rfl
 · rw [List.getElem?_eq_none (by rw [gQ];omega),List.getElem?_eq_none (by rw [List.length_range];omega)];rfl
section
variable {P:Program}{w:World}{K:W.Frag}{mg:Str→Option Value}{base:Heap}{A:cJ}
theorem S6 (T:Txt K mg A):bz P w K mg base bW 5 A.jQ A.nu ["_law_sheets_here"] (Xu A):=by
 have mJ:=Sv (P:=P) (w:=w) (base:=base) T
 have sZ:=xj (P:=P) (w:=w) (base:=base) T
 have wB:=CP (P:=P) (w:=w) (base:=base) T
 have tu:=CQ (P:=P) (w:=w) (base:=base) T
 have tD:=xf (P:=P) (w:=w) (base:=base) T
 have tE:=xg (P:=P) (w:=w) (base:=base) T
 refine T.Cu.ok bO (fun vs H Q E h=>?_) (fun cdv A0 outer s H vs Q E hr h=>?_)
 · obtain⟨ls,xs,ss,rfl,_⟩:=h
   rfl
 obtain⟨ls,xs,ss,rfl,hls,hxs,hG,q⟩:=h
 refine⟨_,(zE (zU (i:=1) bO.nd rfl ‹0› (yR zD))
     (zE (yP PassesOwn.never rfl (zg rfl T.nZ (zA (pv 0) zD)) (kY rfl (yA (zQ (i:=2) bO.nd rfl ‹0›) (yA (zQ (i:=3) bO.nd rfl ‹0›) iW))) (zE (zU (i:=4) bO.nd rfl ‹0› (yR zD))
     (zE (yP PassesOwn.never rfl (yZ (yX xO (pv 3) zI (fun _ _=>rfl))) (kY rfl (yA (zQ (i:=5) bO.nd rfl ‹0›) (yA (zQ (i:=6) bO.nd rfl ‹0›) (yA (zQ (i:=7) bO.nd rfl ‹0›) (yA (zQ (i:=8) bO.nd rfl ‹0›) iW))))) (zF (yH (zZ jj (pv 5) zS (yE _)) (zF (zR (xH PySem.F.plainAttrs_list PySem.F.slot_list_append PySem.F.type_list_append zY (pv 4) (zA (gR T.KY sZ ‹hr› rfl T.N6 T.rU .nil zN (zA (pv 6) (zA (yF mJ ‹hr› rfl T.mq T.mj T.lZ .nil zN (zA (pv 7) zD)) (zA (pv 8) zD)))) zD)))) (zF (zR (xH PySem.F.plainAttrs_list PySem.F.slot_list_append PySem.F.type_list_append zY (pv 4) (zA (gR T.RD wB ‹hr› rfl T.Wm T.vJ .nil zN (zA (pv 6) (zA (Jk T.KR tu ‹hr› rfl T.Ob T.rR .nil zN) (zA (yF mJ ‹hr› rfl T.mq T.mj T.lZ .nil zN (zA (pv 7) zD)) zD)))) zD)))))))
     (zE (zU (i:=9) bO.nd rfl ‹0› (yR zD))
     (zE (yP PassesOwn.never rfl (yZ (yX xO (pv 3) zI (fun _ _=>rfl))) (kY rfl (yA (zQ (i:=10) bO.nd rfl ‹0›) (yA (zQ (i:=7) bO.nd rfl ‹0›) iW))) (zF (zR (xH PySem.F.plainAttrs_list PySem.F.slot_list_append PySem.F.type_list_append zY (pv 9) (zA (yN (zA (yX xM (zM yu (Bu (jf (x:="_law_sign") (M:=["_law_sheets_here","_law_made","_law_s","_law_sheet","_law_rows_here","_law_what","_law_name_here","_law_saying_here","_law_firm","_law_ways","_law_aim"]) rfl (by rfl)) rfl (Q8 (Jm Q9 zS MT (M3 (yI yM (by rfl) T.qP PySem.boot_len (zA (pv 0) zD))))) (fun _ _ _ _=>(zM jk zS (pv 0)))) (yR (zA zS zD))) (pv 10) (fun _ _=>rfl)) (zA (yF mJ ‹hr› rfl T.mq T.mj T.lZ .nil zN (zA (pv 7) zD)) zD))) zD)))))
     (zF (zR (xH PySem.F.plainAttrs_list PySem.F.slot_list_append PySem.F.type_list_append zY (pv 1) (zA (gR T.KZ tD ‹hr› rfl T.Oa T.rY .nil zN (zA (zM jk zS (yX DG zS (pv 2) (fun _ _=>rfl))) (zA jX (zA (pv 4) (zA (pv 9) zD))))) zD)))))))))
     (zF (zO (gR T.K4 tE ‹hr› rfl T.N8 T.sr .nil zN (zA zS (zA (pv 1) (zA (yR zD) zD)))))))),?_⟩
 generalize h0:L2.start _ _=σ0
 have h0:σ0=[some (.ref ls),none,none,none,none,none,none,none,none,none,none]:=by rw [← h0];rfl
 subst h0
 have lens:=zL hxs
 have h5:=hG.len
 rw [gQ] at h5
 refine⟨(by show 0≤sizeLine;decide),fun lm hlm=>?_⟩
 dsimp only [bB,List.set_cons_succ,List.set_cons_zero]
 have s1:=zH hlm (.lst [])
 have em:(upd H lm (.lst [])) lm=some (.lst []):=zB
 generalize upd H lm (.lst [])=H1 at s1 em
 refine⟨_,rfl,ls,rfl,⟨_,bQ.of (s1 _ _ hls)⟩,?_⟩
 refine rN (xs:=xs) (fun i σ G=>∃ u2 u3 u4 u5 u6 u7 u8 u9 wz ms,σ=[some (.ref ls),some (.ref lm),u2,u3,u4,u5,u6,u7,u8,u9,wz]∧aD H G∧G lm=some (.lst ms)∧Paired (UG A (fJ (SS ss)) lm G) ms ((SS ss).take i)) ⟨_,_,_,_,_,_,_,_,_,[],rfl,s1,em,.nil⟩ (fun i σ G hi hw=>?_) (fun i x σ G hx hw=>?_) (fun σ G hw=>?_)
 · obtain⟨_,_,_,_,_,_,_,_,_,_,rfl,sG,_⟩:=hw
   exact bQ.of (sG _ _ hls)
 rotate_left
 · obtain⟨u2,u3,u4,u5,u6,u7,u8,u9,wz,ms,rfl,sG,gm,hms⟩:=hw
   rw [lens,← gQ ss,List.take_length] at hms
   refine⟨_,rfl,(by show 0≤sizeLine;decide),fun le hle=>?_⟩
   have s2:=zH hle (.lst [])
   intro x dx nx nd ne
   have s3:=yS nx nd (.ins A.fc dx [])
   have s23:=s2.trans s3
   have nxe:∀ {b:Addr}{o:HO},(upd G le (.lst [])) b=some o→b≠x:=fun {b o} hb=>zC hb nx
   refine⟨x,dx,_,lm,le,ms,rfl,zB,s23 _ _ gm,s3 _ _ zB,fun q1 q2 H' F p1 p2 p3=>⟨rfl,?_⟩⟩
   have sGH:aD G H':=fun b o hb=>F _ _ (s23 _ _ hb) (fW (zC (s2 _ _ hb) nx))
   exact q x H' (sG.trans sGH) ⟨dx,_,q1,q2,ms,p1,p2,p3,zJ hms fun _ _ z=>z.r.kq (.of sGH)⟩
 intro Tt hT
 obtain⟨u2,u3,u4,u5,u6,u7,u8,u9,wz,ms,rfl,sG,gm,hms⟩:=hw
 obtain⟨sl,hsl,hR⟩:=yC hxs hx
 have hi:i<ss.length:=(List.getElem?_eq_some_iff.mp hsl).1
 have hSi:=wy hsl
 have hmem:=List.mem_of_getElem? hSi
 have Io:sl.1.length≤4:=hG.rows _ hmem
 have Uw:sl.2.length≤4:=hG.ways _ hmem
 have lms:=zL hms
 obtain⟨ta,l1,l2,rs,ws,rfl,t1,t2,t3,t4,t5⟩:=hR
 have sT:=zH hT (.tup [.int (i:Nat),.ref ta])
 refine⟨Tt,_,rfl,gf.of zB,rfl,_,_,rfl,_,_,rfl,rfl,?_⟩
 generalize upd G Tt (.tup [.int (i:Nat),.ref ta])=G0 at sT
 dsimp only [bB,List.set_cons_succ,List.set_cons_zero]
 have sG0:=sG.trans sT
 refine⟨(by show 0≤sizeLine;decide),fun lr hlr=>?_⟩
 dsimp only [bB,List.set_cons_succ,List.set_cons_zero]
 have s3:=zH hlr (.lst [])
 have er:(upd G0 lr (.lst [])) lr=some (.lst []):=zB
 generalize upd G0 lr (.lst [])=G1 at s3 er
 have nml:lm≠lr:=zC (sT _ _ gm) hlr
 have Qt:=sG0.trans s3
 refine mG (fun σ' G'=>∃ u5 u6 u7 u8 ys,σ'=[some (.ref ls),some (.ref lm),some (.int (i:Nat)),some (.ref ta),some (.ref lr),u5,u6,u7,u8,u9,wz]∧Fr [lr] G1 G'∧Kr G1 G'∧G' lr=some (.lst ys)∧Paired (Fl A G') ys sl.1) (fun σ' G' hR=>?_) (fun _ hk2=>?_)
 rotate_left
 ·
   refine⟨_,rfl,ta,_,_,_,rfl,rfl,gf.of (Qt _ _ t1),zX (j:=0) rfl,l1,rfl,⟨rs,bQ.of (Qt _ _ t2)⟩,?_⟩
   have lrs:=zL t4
   refine yY (xs:=rs) (fun j σ G'=>∃ u5 u6 u7 u8 ys,σ=[some (.ref ls),some (.ref lm),some (.int (i:Nat)),some (.ref ta),some (.ref lr),u5,u6,u7,u8,u9,wz]∧Fr [lr] G1 G'∧Kr G1 G'∧G' lr=some (.lst ys)∧Paired (Fl A G') ys (sl.1.take j)) ⟨_,_,_,_,[],rfl,Fr.of (aD.refl _),Kr.of (aD.refl _),er,.nil⟩ (fun j σ G' hj hw=>?_) (fun j x σ G' hx2 hw=>?_) (fun σ G' hw=>?_)
   · obtain⟨_,_,_,_,_,rfl,F,_⟩:=hw
     exact bQ.of (F _ _ (Qt _ _ t2) (fW (zC (sG0 _ _ t2) hlr)))
   rotate_left
   · obtain⟨u5,u6,u7,u8,ys,rfl,F,Kk,gr,hys⟩:=hw
     rw [lrs,List.take_length] at hys
     exact hk2 _ _ ⟨_,_,_,_,ys,rfl,F,Kk,gr,hys⟩
   obtain⟨u5,u6,u7,u8,ys,rfl,F,Kk,gr,hys⟩:=hw
   obtain⟨r,hr',ra,y,rfl,v1,v2⟩:=yC t4 hx2
   have lys:=zL hys
   have hst:=xF hr'
   have l4:(sl.1.take j).length≤4:=Nat.le_trans (by rw [List.length_take];exact Nat.min_le_right _ _) Io
   have Di:aD H G':=fun b o hb=>F _ _ (Qt _ _ hb) (fW (zC (sG0 _ _ hb) hlr))
   have Ih:ys.length<sizeLine:=zP (m:=100) (by omega)
   refine⟨ra,_,rfl,gf.of (Di _ _ v1),rfl,_,_,rfl,_,_,rfl,_,_,rfl,_,_,rfl,rfl,?_⟩
   dsimp only [bB,List.set_cons_succ,List.set_cons_zero]
   have fin:∀ (G2:Hp) (x:Addr),aD G' G2→Fl A G2 (.ref x) r→Fr [lr] G1 (upd G2 lr (.lst (ys++[.ref x])))∧Kr G1 (upd G2 lr (.lst (ys++[.ref x])))∧(upd G2 lr (.lst (ys++[.ref x]))) lr=some (.lst (ys++[.ref x]))∧Paired (Fl A (upd G2 lr (.lst (ys++[.ref x])))) (ys++[.ref x]) (sl.1.take (j+1)):=fun G2 x s2 hx=>by
     have gr2:=s2 _ _ gr
     have ku:Kr G2 (upd G2 lr (.lst (ys++[.ref x]))):=Kr.upd gr2 _
     rw [hst]
     exact⟨(F.trans (Fr.of s2)).upd (List.mem_singleton.mpr rfl) _,(Kk.trans (Kr.of s2)).trans ku,zB,yO (zJ hys fun _ _ z=>z.kr ((Kr.of s2).trans ku)) (.cons (hx.kr ku) .nil)⟩
   refine⟨_,rfl,rfl,_,rfl,?_⟩
   cases hck:r.Ak with
   | true =>
     refine eqS (by rfl) ⟨_,rfl,.inl ⟨rfl,_,bQ.of gr⟩,_,rfl,_,rfl,y,r.sg,rfl,v2.same Di,fun y2 G2 s2 hy2=>?_⟩
     refine⟨_,rfl,fun x dx nx nd ne=>?_⟩
     refine⟨x,dx,_,_,_,rfl,zB,rfl,?_⟩
     rw [yQ]
     have s4:=yS nx nd (oCk A dx (.str r.nm) y2 (.bl r.firm))
     have O1:=s2.trans s4
     obtain⟨z1,z2,z3,z4⟩:=fin _ x O1 ⟨x,dx,y2,rfl,hy2.kq (.of s4),.inl ⟨hck,zB⟩⟩
     exact⟨lr,_,_,rfl,rfl,O1 _ _ gr,Ih,_,_,_,_,_,rfl,z1,z2,z3,z4⟩
   | false =>
     refine Uu (by show ‹"ask"› ≠ ‹"check"›;decide +kernel) ⟨_,rfl,.inl ⟨rfl,_,bQ.of gr⟩,_,rfl,fun k dk nk nd ne=>?_⟩
     refine⟨k,dk,rfl,zB,rfl,?_⟩
     rw [yQ]
     have s3':=yS nk nd (oY A dk)
     refine⟨_,rfl,y,r.sg,rfl,v2.same (Di.trans s3'),fun y2 G2 s2 hy2=>?_⟩
     intro x dx nx Us ne2
     refine⟨x,dx,_,_,_,rfl,zB,rfl,?_⟩
     rw [yQ]
     have s4:=yS nx Us (RK A dx (.str r.nm) (.ref k) y2)
     have O1:=(s3'.trans s2).trans s4
     obtain⟨z1,z2,z3,z4⟩:=fin _ x O1 ⟨x,dx,y2,rfl,hy2.kq (.of s4),.inr ⟨hck,k,dk,zB,s4 _ _ (s2 _ _ zB)⟩⟩
     exact⟨lr,_,_,rfl,rfl,O1 _ _ gr,Ih,_,_,_,_,_,rfl,z1,z2,z3,z4⟩
 obtain⟨u5,u6,u7,u8,ys,rfl,F1,K1,gr,hys⟩:=hR
 have Di:aD H G':=fun b o hb=>F1 _ _ (Qt _ _ hb) (fW (zC (sG0 _ _ hb) hlr))
 refine⟨(by show 0≤sizeLine;decide),fun lw Ig=>?_⟩
 dsimp only [bB,List.set_cons_succ,List.set_cons_zero]
 have s4:=zH Ig (.lst [])
 have ew:(upd G' lw (.lst [])) lw=some (.lst []):=zB
 generalize upd G' lw (.lst [])=G2 at s4 ew
 have gm':G' lm=some (.lst ms):=F1 _ _ (s3 _ _ (sT _ _ gm)) (fW nml)
 have nmw:lm≠lw:=zC gm' Ig
 have nrw:lr≠lw:=zC gr Ig
 have S7:=Di.trans s4
 refine mG (fun σ' G3=>∃ u7 wz vs,σ'=[some (.ref ls),some (.ref lm),some (.int (i:Nat)),some (.ref ta),some (.ref lr),u5,u6,u7,u8,some (.ref lw),wz]∧Fr [lw] G2 G3∧Kr G2 G3∧G3 lw=some (.lst vs)∧Paired (Il A (fJ (SS ss)) G3) vs sl.2) (fun σ' G3 hR=>?_) (fun _ hk3=>?_)
 · obtain⟨u7,wz,vs,rfl,F3,K3,gw,hvs⟩:=hR
   have gm3:G3 lm=some (.lst ms):=F3 _ _ (s4 _ _ gm') (fW nmw)
   have gr3:G3 lr=some (.lst ys):=F3 _ _ (s4 _ _ gr) (fW nrw)
   have hi5:i<5:=by omega
   have ls5:‹"abcde"›.length=5:=by symm
   have ls6:‹"sheet"›.length=5:=by symm
   refine⟨_,rfl,.inl ⟨rfl,_,bQ.of gm3⟩,_,rfl,_,_,_,rfl,rfl,(by rw [ls5,sizeLine_eq];omega),Pg hi5,_,_,rfl,rfl,(by rw [ls6,sizeLine_eq,show (⟨#[97+i]⟩:Str).length=1 from rfl];omega),_,rfl,_,rfl,fun x dx nx nd ne=>?_⟩
   have s5:=yS nx nd (.ins A.gW dx [])
   refine⟨x,dx,_,_,lr,lw,ys,vs,rfl,zB,s5 _ _ gr3,s5 _ _ gw,fun q1 q2 G5 nq f1 f2 F5 p1 p2 p3=>⟨rfl,?_⟩⟩
   have Qs:aD G3 G5:=fun b o hb=>F5 _ _ (s5 _ _ hb) (fW (zC hb nx))
   have gm5:=Qs _ _ gm3
   refine⟨lm,_,_,rfl,rfl,gm5,zP (m:=100) (by rw [lms,List.length_take];omega),?_⟩
   have ku:Kr G5 (upd G5 lm (.lst (ms++[.ref x]))):=Kr.upd gm5 _
   have Ku:Kr G (upd G5 lm (.lst (ms++[.ref x]))):=(((((Kr.of (sT.trans s3)).trans K1).trans (Kr.of s4)).trans K3).trans (Kr.of Qs)).trans ku
   have Fu:Fr [lm] G (upd G5 lm (.lst (ms++[.ref x]))):=fun b o hb hn=>by
     rw [zG (fun e=>hn (by rw [e];exact List.mem_singleton.mpr rfl))]
     have b1:=s3 _ _ (sT _ _ hb)
     have b2:=F1 _ _ b1 (fW (zC (sT _ _ hb) hlr))
     exact Qs _ _ (F3 _ _ (s4 _ _ b2) (fW (zC b2 Ig)))
   have nq1:q1≠lm:=fun e=>by rw [e] at f1;rw [s5 _ _ gm3] at f1;cases f1
   have nq2:q2≠lm:=fun e=>by rw [e] at f2;rw [s5 _ _ gm3] at f2;cases f2
   refine⟨_,_,_,_,_,_,_,_,_,ms++[.ref x],rfl,fun b o hb=>Fu _ _ (sG _ _ hb) (fW (zC hb hlm)),zB,?_⟩
   rw [xF hSi]
   refine yO (zJ hms fun _ _ z=>z.fr Fu Ku) (.cons ⟨x,dx,q1,q2,ys,vs,rfl,ku _ _ p1 (fun _ z=>by cases z),by rw [zG nq1];exact p2,by rw [zG nq2];exact p3,zJ hys fun _ _ z=>z.kr ((((Kr.of s4).trans K3).trans (Kr.of Qs)).trans ku),zJ hvs fun _ _ z=>z.kr ((Kr.of Qs).trans ku),nq1,nq2⟩ .nil)
 ·
   refine⟨_,rfl,ta,_,_,_,rfl,rfl,gf.of (S7 _ _ t1),zX (j:=1) rfl,l2,rfl,⟨ws,bQ.of (S7 _ _ t3)⟩,?_⟩
   have lws:=zL t5
   refine yY (xs:=ws) (fun j σ G3=>∃ u7 wz vs,σ=[some (.ref ls),some (.ref lm),some (.int (i:Nat)),some (.ref ta),some (.ref lr),u5,u6,u7,u8,some (.ref lw),wz]∧Fr [lw] G2 G3∧Kr G2 G3∧G3 lw=some (.lst vs)∧Paired (Il A (fJ (SS ss)) G3) vs (sl.2.take j)) ⟨_,_,[],rfl,Fr.of (aD.refl _),Kr.of (aD.refl _),ew,.nil⟩ (fun j σ G3 hj hw=>?_) (fun j x σ G3 hx2 hw=>?_) (fun σ G3 hw=>?_)
   · obtain⟨_,_,_,rfl,F,_⟩:=hw
     exact bQ.of (F _ _ (S7 _ _ t3) (fW (zC (Di _ _ t3) Ig)))
   rotate_left
   · obtain⟨u7,wz,vs,rfl,F,Kk,gw,hvs⟩:=hw
     rw [lws,List.take_length] at hvs
     exact hk3 _ _ ⟨_,_,vs,rfl,F,Kk,gw,hvs⟩
   obtain⟨u7,wz,vs,rfl,F,Kk,gw,hvs⟩:=hw
   obtain⟨v,hv,va,y,rfl,v1,v2⟩:=yC t5 hx2
   have lvs:=zL hvs
   have l4:(sl.2.take j).length≤4:=Nat.le_trans (by rw [List.length_take];exact Nat.min_le_right _ _) Uw
   have Xq:aD H G3:=fun b o hb=>F _ _ (S7 _ _ hb) (fW (zC (Di _ _ hb) Ig))
   have hav:=hG.Ws i _ hSi v (List.mem_of_getElem? hv)
   rw [gQ] at hav
   refine⟨va,_,rfl,gf.of (Xq _ _ v1),rfl,_,_,rfl,_,_,rfl,rfl,?_⟩
   dsimp only [bB,List.set_cons_succ,List.set_cons_zero]
   have ls5:‹"abcde"›.length=5:=by symm
   have ls6:‹"sheet"›.length=5:=by symm
   refine⟨_,rfl,.inl ⟨rfl,_,bQ.of gw⟩,_,rfl,ls,_,rfl,.inl (bQ.of (Xq _ _ hls)),_,rfl,_,rfl,(by rw [ls5,sizeLine_eq];omega),_,rfl,?_⟩
   rw [lens,Ph h5]
   have hst:=xF hv
   have eL:∀ j:Nat,j<ss.length→((List.range ss.length).map (97+·))[j]? = some (97+j):=fun j hj=>by rw [List.getElem?_map,List.getElem?_range hj];rfl
   have lL:((List.range ss.length).map (97+·)).length=ss.length:=by rw [List.length_map,List.length_range]
   generalize (List.range ss.length).map (97+·)=L at eL lL
   refine Hr (x:=S L) (zP (m:=100) (by rw [Gm];omega)) (fun j zs G4=>G3=G4∧zs=((List.range j).map Fy).map V.str) ⟨rfl,rfl⟩ (fun j d zs G4 hd hlen hw=>?_) (fun zs G4 hlen hw p hp=>?_)
   · obtain⟨rfl,rfl⟩:=hw
     have hd:L[j]? = some d:=by rw [Nf] at hd;exact hd
     have hj:j<ss.length:=by have:=(List.getElem?_eq_some_iff.mp hd).1;omega
     rw [eL j hj] at hd
     cases hd
     refine⟨_,rfl,_,_,rfl,rfl,(by rw [ls6,sizeLine_eq,Gm];show 5+1≤_;omega),rfl,?_⟩
     rw [List.range_succ,List.map_append,List.map_append]
     rfl
   · obtain⟨rfl,rfl⟩:=hw
     rw [Gm,lL]
     have s5:=zH hp (.lst (((List.range ss.length).map Fy).map V.str))
     refine⟨(by show 1≤sizeLine;decide),fun pe hpe=>?_⟩
     have s6:=zH hpe (.lst [.str ‹"end"›])
     refine⟨p,pe,_,_,rfl,rfl,s6 _ _ zB,zB,zP (m:=100) (by rw [List.length_map,List.length_map,List.length_range];show _+1≤_;omega),fun pn hpn=>?_⟩
     have s7:=zH hpn (.lst ((((List.range ss.length).map Fy).map V.str)++[.str ‹"end"›]))
     have s57:=(s5.trans s6).trans s7
     have en:(((List.range ss.length).map Fy).map V.str)++[.str ‹"end"›]=(fJ (SS ss)).map V.str:=by rw [LR,List.map_append];rfl
     rw [en]
     rw [en] at s57
     have hlt:v.1<(fJ (SS ss)).length:=by rw [LR,List.length_append,List.length_map,List.length_range];show _<_+1;omega
     have hget:(fJ (SS ss))[v.1]? = some (fJ (SS ss))[v.1]:=List.getElem?_eq_getElem hlt
     generalize (fJ (SS ss))[v.1]=tn at hget
     refine⟨_,rfl,pn,_,_,_,rfl,rfl,bQ.of zB,zX (j:=v.1) (by rw [List.getElem?_map,hget];rfl),?_⟩
     refine⟨_,rfl,y,v.2,rfl,v2.same (Xq.trans s57),fun y2 G5 s8 hy2=>?_⟩
     refine⟨(by show 2≤sizeLine;decide),fun t ht=>?_⟩
     have s9:=zH ht (.tup [.str tn,y2])
     have s59:=(s57.trans s8).trans s9
     have gw9:=s59 _ _ gw
     refine⟨lw,_,_,rfl,rfl,gw9,zP (m:=100) (by omega),?_⟩
     have ku:∀ {o:HO},Kr (upd G5 t (.tup [.str tn,y2])) (upd (upd G5 t (.tup [.str tn,y2])) lw o):=fun {o}=>Kr.upd gw9 o
     have ntw:t≠lw:=Ne.symm (zC ((s57.trans s8) _ _ gw) ht)
     refine⟨_,_,vs++[.ref t],rfl,(F.trans (Fr.of s59)).upd (List.mem_singleton.mpr rfl) _,(Kk.trans (Kr.of s59)).trans ku,zB,?_⟩
     rw [hst]
     exact yO (zJ hvs fun _ _ z=>z.kr ((Kr.of s59).trans ku)) (.cons ⟨t,y2,tn,rfl,by rw [zG ntw];exact zB,hget,(hy2.kq (.of s9)).kr ku⟩ .nil)
end
def Ent (e:List V):Prop:=(∃ w n,e=iR w n∧w≠‹"ask"›)∨(∃ n b,e=Fq n b)∨e=Ow
theorem Ma {bk:Bk}{s:Gs}{r:Rw} (h:∀ e∈s.L,Ent e):∀ e∈(dm bk s r).L,Ent e:=by
 have one:∀ {L:List (List V)}{x:List V},(∀ e∈L,Ent e)→Ent x→∀ e∈L++[x],Ent e:=fun {L x} h hx e he=>by
   rcases List.mem_append.mp he with he | he
   · exact h e he
   · rw [List.mem_singleton.mp he];exact hx
 unfold dm
 split
 · exact h
 split
 · split
   · exact one h (.inl ⟨_,_,rfl,by symm⟩)
   · split
     · exact one h (.inl ⟨_,_,rfl,by symm⟩)
     · exact one h (.inl ⟨_,_,rfl,by symm⟩)
 · split
   · cases bk r.nm with
     | none=>exact one h (.inl ⟨_,_,rfl,by symm⟩)
     | some b=>exact one h (.inr (.inl ⟨_,_,rfl⟩))
   · exact h
theorem Mf {bk:Bk} (rs:List Rw):∀ (s:Gs),(∀ e∈s.L,Ent e)→∀ e∈(aM bk s rs).L,Ent e:=by
 induction rs with
 | nil=>intro s h;exact h
 | cons r rs ih=>intro s h;exact ih _ (Ma h)
theorem Pj {bk:Bk}{S:List kW}{i:Nat}{s:Gs}{Lf:List (List V)} (h:Fin bk S i s Lf):(∀ e∈s.L,Ent e)→∀ e∈Lf,Ent e:=by
 induction h with
 | over _=>exact fun h=>h
 | done _ _ =>
   intro h e he
   rcases List.mem_append.mp he with he | he
   · exact h e he
   · rw [List.mem_singleton.mp he];exact .inr (.inr rfl)
 | step _ _ _ ih=>exact fun h=>ih (Mf _ _ h)
theorem Mg {e:List V} (h:Ent e):e.all dD=true:=by
 rcases h with ⟨w,n,rfl,_⟩ | ⟨n,b,rfl⟩ | rfl <;> rfl
theorem FT {X:Cx}{H:Hp}{p q:Addr}{xs ys:List V}{L:List (List V)} (h:H p=some (.lst xs)) (k:H q=some (.lst ys)) (hx:Paired (wF H) xs L) (hy:Paired (wF H) ys L) (hL:∀ e∈L,Ent e):Nj X H 20 (.ref p) (.ref q) true:=by
 have e:=xZ (X:=X) (n:=19) (e:=fun _=>true) (bQ.of h) (bQ.of k) (by rw [zL hx,zL hy]) fun j x y hx' hy'=>by
   obtain⟨t,ht,a,rfl,ha⟩:=yC hx hx'
   obtain⟨t',ht',b,rfl,hb⟩:=yC hy hy'
   rw [ht] at ht';cases ht'
   have fl:=Mg (hL t (List.mem_of_getElem? ht))
   have:=Hy (X:=X) (n:=18) (gf.of ha) (gf.of hb) fl fl (fun _=>rfl)
   rw [vo fl] at this
   exact this
 rw [show (List.range xs.length).all (fun _=>true)=true by simp] at e
 exact e
def Pk (lb:List (Key × V)):Prop:=(lb.map (·.1)).Nodup∧∀ kv∈lb,∃ z b,kv=(.inr z,.bl b)
def FW (lb:List (Key × V)) (z:Str):Option Bool:=match bR lb (.inr z) with
 | some (.bl b)=>some b
 | _=>none
theorem GQ {κ:Type} [DecidableEq κ] {kvs:List (κ × V)}{k:κ}{v:V} (h:bR kvs k=some v):(k,v)∈kvs:=by
 unfold bR at h
 cases e:kvs.find? (fun kv=>decide (kv.1=k)) with
 | none=>rw [e] at h;cases h
 | some p =>
   rw [e] at h;cases h
   have h1:=List.find?_some e
   have h2:=List.mem_of_find?_eq_some e
   have h3:p.1=k:=of_decide_eq_true h1
   rw [← h3];exact h2
theorem Pk.r {lb:List (Key × V)} (h:Pk lb):BkR lb (FW lb):=fun z=>by
 unfold FW
 cases e:bR lb (.inr z) with
 | none=>rfl
 | some v =>
   obtain⟨z',b,e2⟩:=h.2 _ (GQ e)
   cases e2
   rfl
theorem Pk.put {lb:List (Key × V)} (h:Pk lb) (z:Str) (b:Bool):Pk (putK lb (.inr z) (.bl b)):=by
 unfold putK
 split
 · refine⟨?_,fun kv hkv=>?_⟩
   · have:(lb.map (fun kv=>if kv.1=Sum.inr z then (kv.1,V.bl b) else kv)).map (·.1)=lb.map (·.1):=by
       rw [List.map_map]
       refine List.map_congr_left fun kv _=>?_
       show (if kv.1=Sum.inr z then (kv.1,V.bl b) else kv).1=kv.1
       split <;> rfl
     rw [this];exact h.1
   · obtain⟨kv',hk,rfl⟩:=List.mem_map.mp hkv
     obtain⟨z',b',rfl⟩:=h.2 _ hk
     split
     · exact⟨z',b,rfl⟩
     · exact⟨z',b',rfl⟩
 · rename_i hn
   refine⟨?_,fun kv hkv=>?_⟩
   · rw [List.map_append,List.nodup_append]
     refine⟨h.1,List.nodup_cons.mpr ⟨by simp,List.nodup_nil⟩,fun a ha c hc e=>?_⟩
     rw [List.mem_singleton.mp hc] at e
     obtain⟨kv,hk,rfl⟩:=List.mem_map.mp ha
     exact hn (List.any_eq_true.mpr ⟨kv,hk,decide_eq_true e⟩)
   · rcases List.mem_append.mp hkv with hkv | hkv
     · exact h.2 kv hkv
     · rw [List.mem_singleton.mp hkv];exact⟨z,b,rfl⟩
def afF:Key→Str
 | .inr z=>z
 | .inl _=>‹""›
def iV (lb:List (Key × V)):List (List Key × V):=lb.map fun kv=>(keyOf (afF kv.1),kv.2)
theorem yf {a b:Str} (h:keyOf a=keyOf b):a=b:=by
 unfold keyOf at h
 have:=List.head_eq_of_cons_eq h
 exact Sum.inr.inj this
theorem Pn (rows:List (List Key × V)) (hn:(rows.map (·.1)).Nodup) (k:List Key):bR (Ml rows) k=bR rows k:=by
 have aux:∀ (rows acc:List (List Key × V)),(rows.map (·.1)).Nodup→bR (rows.foldl (fun acc r=>putK acc r.1 r.2) acc) k=(match bR rows k with | some v=>some v | none=>bR acc k):=by
   intro rows
   induction rows with
   | nil=>intro acc _;rfl
   | cons r rs ih =>
     intro acc hn
     have hn':=List.nodup_cons.mp hn
     rw [List.foldl_cons,ih _ hn'.2]
     by_cases e:r.1=k
     · rw [yU e]
       cases e2:bR rs k with
       | some v=>exact absurd (M9 e2) (by rw [← e];exact hn'.1)
       | none=>rw [xB,if_pos e.symm]
     · rw [yV e]
       cases bR rs k with
       | some v=>rfl
       | none=>show bR (putK acc r.1 r.2) k=bR acc k;rw [xB,if_neg (fun z=>e z.symm)]
 have:=aux rows [] hn
 show bR (rows.foldl (fun acc r=>putK acc r.1 r.2) []) k=_
 rw [this]
 cases bR rows k <;> rfl
theorem Ii {lb:List (Key × V)} (h:Pk lb) (z:Str):Ov (Ml (iV lb)) z=bv (FW lb z):=by
 have nd:((iV lb).map (·.1)).Nodup:=by
   unfold iV
   rw [List.map_map]
   refine List.pairwise_map.mpr ?_
   have h1:=List.pairwise_map.mp h.1
   refine List.Pairwise.imp_of_mem (fun {a b} ha hb hab e=>hab ?_) h1
   obtain⟨za,ba,rfl⟩:=h.2 a ha
   obtain⟨zb,bb,rfl⟩:=h.2 b hb
   have:=yf (a:=za) (b:=zb) e
   rw [this]
 have hv:bR (iV lb) (keyOf z)=bR lb (.inr z):=by
   have aux:∀ lb:List (Key × V),(∀ kv∈lb,∃ z b,kv=(.inr z,.bl b))→bR (iV lb) (keyOf z)=bR lb (.inr z):=by
     intro lb
     induction lb with
     | nil=>intro _;rfl
     | cons kv l ih =>
       intro hl
       obtain⟨z',b,rfl⟩:=hl kv List.mem_cons_self
       have ih':=ih fun q hq=>hl q (List.mem_cons_of_mem _ hq)
       show bR ((keyOf z',V.bl b)::iV l) (keyOf z)=_
       by_cases e:z'=z
       · rw [yU (show (keyOf z',V.bl b).1=keyOf z by rw [e]),yU (show ((Sum.inr z':Key),V.bl b).1=Sum.inr z by rw [e])]
       · rw [yV (fun q=>e (yf q)),yV (fun q=>e (Sum.inr.inj q)),ih']
   exact aux lb h.2
 unfold Ov
 rw [Pn _ nd,hv,h.r z]
 cases FW lb z <;> rfl
def Mh (K:W.Frag) (Pt:Addr):Sp:=fun vs H Q _=>∃ (a:Addr) (ns:List Int),vs=[.ref a]∧bQ K H a (ns.map V.int)∧ns.length≤63∧(∀ n∈ns,ib n≤1048576)∧Uv H Pt∧∀ H',Q (.bl true) H'
theorem Mi {t u:TS}{D:Ends}{σ:St}{H:Hp} (h:∀ N:St→Hp→Prop,(∀ σ' H',u D σ' H'→N σ' H')→t { D with nx:=N } σ H):QG t u D σ H:=h _ fun _ _ z=>z
theorem Dj {H H':Hp} (s:aD H H') {x:V}{kv:List Key × V} (h:Wk H x kv):Wk H' x kv:=by
 obtain⟨a,k,e,h1,h2⟩:=h
 exact⟨a,k,e,s _ _ h1,s _ _ h2⟩
theorem Ij {lb:List (Key × V)} (h:(lb.map (·.1)).Nodup) {k:Key}{u v:V} (h1:(k,u)∈lb) (h2:(k,v)∈lb):u=v:=by
 induction lb with
 | nil=>cases h1
 | cons a l ih =>
   have tR:=List.nodup_cons.mp h
   rcases List.mem_cons.mp h1 with e1 | e1 <;> rcases List.mem_cons.mp h2 with e2 | e2
   · rw [← e1] at e2;cases e2;rfl
   · exact absurd (List.mem_map_of_mem (f:=(·.1)) e2) (by rw [← e1] at tR;exact tR.1)
   · exact absurd (List.mem_map_of_mem (f:=(·.1)) e1) (by rw [← e2] at tR;exact tR.1)
   · exact ih tR.2 e1 e2
section
variable {P:Program}{w:World}{K:W.Frag}{mg:Str→Option Value}{base:Heap}{A:cJ}{Pt:Addr}
theorem S8 (T:Txt K mg A) (B:BMain mg base) {c0:Addr} (hc:A.aF.code=.ref c0) (hh:W.codeHdIn K c0 Pt=true):bz P w K mg base bW 40 A.KC A.KD ["_law_script"] (Mh K Pt):=by
 have dB:=oN (P:=P) (w:=w) (base:=base) T
 have Ax:=SM (P:=P) (w:=w) (base:=base) T
 have Dk:=S6 (P:=P) (w:=w) (base:=base) T
 have Dl:=SJ (P:=P) (w:=w) (base:=base) T
 have FZ:=Dg (P:=P) (w:=w) (base:=base) B hc hh T
 refine T.Qf.ok iQ (fun vs H Q E h=>?_) (fun cdv A0 outer s H vs Q E hr h=>?_)
 · obtain⟨a,ns,rfl,_⟩:=h
   rfl
 obtain⟨a,ns,rfl,hS,hl,hb,hT,q⟩:=h
 have hNs:Ns ns:=hb
 have hl':ns.length≤1000:=by omega
 refine⟨_,(zE (zU (i:=1) iQ.nd rfl ‹0› (yF Ax ‹hr› rfl T.Ad T.Ac T.Ab .nil zN (zA (pv 0) zD)))
     (zE (zU (i:=2) iQ.nd rfl ‹0› (yF Dk ‹hr› rfl T.Cy T.Cw T.Cv .nil zN (zA (pv 1) zD)))
     (zE (yP PassesOwn.never rfl (oV rfl T.uN (zA zI zD)) (zQ (i:=3) iQ.nd rfl ‹0›) (zE (zU (i:=4) iQ.nd rfl ‹0› km)
     (zE (yP PassesOwn.never rfl (zg rfl T.nZ (zA (pv 1) zD)) (kY rfl (yA (zQ (i:=5) iQ.nd rfl ‹0›) (yA (zQ (i:=6) iQ.nd rfl ‹0›) iW))) (zF (yP PassesOwn.never rfl (zg rfl T.nZ (zA (yX xO (pv 6) zI (fun _ _=>rfl)) zD)) (kY rfl (yA (zQ (i:=7) iQ.nd rfl ‹0›) (yA (zQ (i:=8) iQ.nd rfl ‹0›) iW))) (zE (zU (i:=9) iQ.nd rfl ‹0› (zM lq (yF dB ‹hr› rfl T.fH T.fG T.fD .nil zN (zA (pv 0) (zA (zM xA (zM xA zI (zM jL zI (pv 5))) (pv 7)) zD))) (yX xM (yR (zA zI (zA zI (zA zI zD)))) (pv 3) (fun _ _=>rfl))))
     (zF (yH (zZ VG (zM yW (pv 9) zI) (zM xA zI (pv 3)) (yE _)) (zF (qz (xK hr) (pv 4) (yX xO (pv 8) zI (fun _ _=>rfl)) (iY jj (zM yW (pv 9) zI) zI (yE _)) rfl)) zV))))))
     (zE (zU (i:=10) iQ.nd rfl ‹0› (yF FZ ‹hr› rfl T.Eo T.En T.Em .nil zN (zA (pv 2) (zA (gh (rO rfl (Rj hr)) (by rfl) T.KJ Bt.dict (zA (Kh (jf (x:="_law_name_here") (M:=["_law_script","_law_sheets_here","_law_paper_here","_law_turn","_law_book","_law_s","_law_sheet","_law_r","_law_row","_law_cell_here","_law_found"]) rfl (by rfl)) rfl (NQ (pv 4)) (fun _ _ _ _=>vq) (fun _ _ _ _=>(yN (zA (yN (zA (pv 0) (zA zS zD))) (zA (lA (xK hr) (pv 5) (pv 0) (fun _ _=>rfl)) zD))))) zD)) zD))))
     (zE (yH (PW.pt (IK (iw (yJ (yI ig (by rfl) T.cB Bt.isinstance (zA (pv 10) (zA (qu (v:=.ty "list") rfl T.sS Bt.list rfl) zD))))) (Ds (zZ (Ri (Rj hr)) (pv 10) (yF Dl ‹hr› rfl T.Cr T.Cq T.Cp .nil zN (zA (pv 1) (zA (pv 4) zD))) (yE _))))) (zF (zO mY)) zV)
     (zF (yP PassesOwn.never rfl (yZ (pv 10)) (zQ (i:=8) iQ.nd rfl ‹0›) (zF (yH (PW.pt (IK (iw (yJ (yI ig (by rfl) T.cB Bt.isinstance (zA (pv 8) (zA (qu (v:=.ty "tuple") rfl T.N5 Bt.tuple rfl) zD))))) (Ds (PW.pt (rE (zZ jj (yX xO (pv 8) zI (fun _ _=>rfl)) zS (yE _)) (oU (iw (yJ (yI ig (by rfl) T.cB Bt.isinstance (zA (yX xO (pv 8) zI (fun _ _=>rfl)) (zA (qu (v:=.ty "bool") rfl T.Ff Bt.bool rfl) zD))))))))))) (zF (zO mY)) zV)))))))))
     (zF (zO mY))))),?_⟩
 generalize h0:L2.start _ [V.ref a]=σ0
 have h0:σ0=[some (.ref a),none,none,none,none,none,none,none,none,none,none]:=by rw [← h0];rfl
 subst h0
 refine⟨_,rfl,a,ns,rfl,hS,hl',hNs,fun ls xs ss H1 fls s1 hls hxs hG=>?_⟩
 dsimp only [bB,List.set_cons_succ,List.set_cons_zero]
 refine⟨_,rfl,ls,xs,ss,rfl,hls,hxs,hG,fun pa H2 s2 hPa=>?_⟩
 dsimp only [bB,List.set_cons_succ,List.set_cons_zero]
 have s12:=s1.trans s2
 have hT2:Uv H2 Pt:=s12 _ _ hT
 have hS2:=s12.seq hS
 have hls2:=s2 _ _ hls
 have S9:Paired (Mp H2) xs ss:=zJ hxs fun _ _=>Mp.same s2
 clear hS hT hls hxs s1 s2 s12
 have lxs:=zL S9
 have h5:=hG.len
 rw [gQ] at h5
 refine⟨_,rfl,(by decide),(by decide),?_⟩
 refine lB (fun i σ G=>∃ u3 u4 u5 u6 u7 u8 u9 wz,σ=[some (.ref a),some (.ref ls),some (.ref pa),u3,u4,u5,u6,u7,u8,u9,wz]∧aD H2 G) ⟨_,_,_,_,_,_,_,_,rfl,aD.refl _⟩ (fun i σ G hi hw=>?_) (fun σ G hw=>?_)
 rotate_left
 · obtain⟨_,_,_,_,_,_,_,_,rfl,_⟩:=hw
   exact q _
 obtain⟨u3,u4,u5,u6,u7,u8,u9,wz,rfl,sG⟩:=hw
 dsimp only [bB,List.set_cons_succ,List.set_cons_zero]
 have i0:(0+(i:Nat):Int)=(i:Int):=by omega
 rw [i0]
 have hi3:i<3:=by
   have:(Int.toNat 3)=3:=rfl
   omega
 intro d hd
 dsimp only [bB,List.set_cons_succ,List.set_cons_zero]
 have s3:=zH hd (.dK [])
 have ed:(upd G d (.dK [])) d=some (.dK []):=zB
 generalize upd G d (.dK [])=G1 at s3 ed
 have Qt:=sG.trans s3
 have fd2:H2 d=none:=xJ sG hd
 have outD:∀ {G':Hp},Fr [d] G1 G'→aD H2 G':=fun {G'} F b o hb'=>F _ _ (Qt _ _ hb') (fW (zC hb' fd2))
 refine mG (fun σ' G'=>∃ u5 u6 u7 u8 u9 lb,σ'=[some (.ref a),some (.ref ls),some (.ref pa),some (.int (i:Int)),some (.ref d),u5,u6,u7,u8,u9,wz]∧Fr [d] G1 G'∧G' d=some (.dK lb)∧Pk lb∧lb.length≤100) (fun σ' G' hR=>?_) (fun _ hk=>?_)
 rotate_left
 ·
   refine⟨_,rfl,ls,rfl,⟨_,bQ.of (Qt _ _ hls2)⟩,?_⟩
   refine rN (xs:=xs) (fun j σ G'=>∃ u5 u6 u7 u8 u9 lb,σ=[some (.ref a),some (.ref ls),some (.ref pa),some (.int (i:Int)),some (.ref d),u5,u6,u7,u8,u9,wz]∧Fr [d] G1 G'∧G' d=some (.dK lb)∧Pk lb∧lb.length≤4*j) ⟨_,_,_,_,_,[],rfl,Fr.of (aD.refl _),ed,⟨List.nodup_nil,fun _ h=>by cases h⟩,Nat.le_refl _⟩ (fun j σ G' hj hw=>?_) (fun j x σ G' hx hw=>?_) (fun σ G' hw=>?_)
   · obtain⟨_,_,_,_,_,_,rfl,F,_⟩:=hw
     exact bQ.of (outD F _ _ hls2)
   rotate_left
   · obtain⟨u5,u6,u7,u8,u9,lb,rfl,F,gd,hB,hlb⟩:=hw
     exact hk _ _ ⟨_,_,_,_,_,lb,rfl,F,gd,hB,by rw [lxs] at hlb;omega⟩
   intro Tt hTt
   obtain⟨u5,u6,u7,u8,u9,lb,rfl,F,gd,hB,hlb⟩:=hw
   obtain⟨sl,hsl,ta,l1,l2,rs,ws,rfl,t1,t2,t3,t4,t5⟩:=yC S9 hx
   have hj5:j<5:=by have:=(List.getElem?_eq_some_iff.mp hsl).1;omega
   have Io:sl.1.length≤4:=hG.rows _ (List.mem_of_getElem? (wy hsl))
   have lrs:=zL t4
   have sT:=zH hTt (.tup [.int (j:Nat),.ref ta])
   refine⟨Tt,_,rfl,gf.of zB,rfl,_,_,rfl,_,_,rfl,rfl,?_⟩
   generalize upd G' Tt (.tup [.int (j:Nat),.ref ta])=G2 at sT
   dsimp only [bB,List.set_cons_succ,List.set_cons_zero]
   have F2:Fr [d] G1 G2:=F.trans (Fr.of sT)
   have S7:=outD F2
   refine⟨_,rfl,ta,_,_,_,rfl,rfl,gf.of (S7 _ _ t1),zX (j:=0) rfl,l1,rfl,⟨rs,bQ.of (S7 _ _ t2)⟩,?_⟩
   refine rN (xs:=rs) (fun k σ G3=>∃ u7 u8 u9 lb,σ=[some (.ref a),some (.ref ls),some (.ref pa),some (.int (i:Int)),some (.ref d),some (.int (j:Nat)),some (.ref ta),u7,u8,u9,wz]∧Fr [d] G1 G3∧G3 d=some (.dK lb)∧Pk lb∧lb.length≤4*j+k) ⟨_,_,_,lb,rfl,F2,sT _ _ gd,hB,hlb⟩ (fun k σ G3 hk' hw=>?_) (fun k x σ G3 hx2 hw=>?_) (fun σ G3 hw=>?_)
   · obtain⟨_,_,_,_,rfl,F3,_⟩:=hw
     exact bQ.of (outD F3 _ _ t2)
   rotate_left
   · obtain⟨u7,u8,u9,lb,rfl,F3,gd3,hB3,Xv⟩:=hw
     exact⟨_,_,_,_,_,lb,rfl,F3,gd3,hB3,by rw [lrs] at Xv;omega⟩
   intro T2 hT2'
   obtain⟨u7,u8,u9,lb,rfl,F3,gd3,hB3,Xv⟩:=hw
   obtain⟨r,hri,ra,y,rfl,v1,v2⟩:=yC t4 hx2
   have hk4:k<4:=by have:=(List.getElem?_eq_some_iff.mp hri).1;omega
   have sT2:=zH hT2' (.tup [.int (k:Nat),.ref ra])
   refine⟨T2,_,rfl,gf.of zB,rfl,_,_,rfl,_,_,rfl,rfl,?_⟩
   generalize upd G3 T2 (.tup [.int (k:Nat),.ref ra])=G4 at sT2
   dsimp only [bB,List.set_cons_succ,List.set_cons_zero]
   have F4:Fr [d] G1 G4:=F3.trans (Fr.of sT2)
   have sH4:=outD F4
   have gd4:=sT2 _ _ gd3
   refine⟨_,rfl,_,rfl,_,_,rfl,rfl,⟨q9 (by decide) (by decide),q9 (by omega) (by omega)⟩,_,_,rfl,rfl,_,rfl,_,_,rfl,rfl,a,ns,53+4*j+k,(by dsimp only;rw [show ((53:Int)+4*((j:Nat):Int)+((k:Nat):Int))=((53+4*j+k:Nat):Int) by omega];rfl),sH4.seq hS2,(by omega),hl',hNs,(by show 3≤sizeLine;decide),fun p hp=>?_⟩
   have s5:=zH hp (.lst [.int 1,.int 3,.int 9])
   obtain⟨dv,hdv,hd1,hd2⟩:∃ dv:Int,([V.int 1,V.int 3,V.int 9]:List V)[i]? = some (.int dv)∧0<dv∧dv<100:=by
     match i,hi3 with
     | 0,_=>exact⟨1,rfl,by decide,by decide⟩
     | 1,_=>exact⟨3,rfl,by decide,by decide⟩
     | 2,_=>exact⟨9,rfl,by decide,by decide⟩
   refine⟨_,rfl,p,_,_,_,rfl,rfl,bQ.of zB,zX hdv,_,_,rfl,rfl,⟨hd1,by omega⟩,?_⟩
   dsimp only [bB,List.set_cons_succ,List.set_cons_zero]
   have gd5:=s5 _ _ gd4
   have F5:Fr [d] G1 (upd G4 p (.lst [.int 1,.int 3,.int 9])):=F4.trans (Fr.of s5)
   generalize upd G4 p (.lst [.int 1,.int 3,.int 9])=G5 at s5 gd5 F5
   generalize dj ns (53+4*j+k) / dv=c
   refine⟨_,rfl,_,_,rfl,rfl,(show (0:Int)<9 by decide),_,rfl,_,_,rfl,rfl,rfl,_,rfl,?_⟩
   refine yw (fun c1=>?_) (fun c1=>⟨_,_,_,lb,rfl,F5,gd5,hB3,by omega⟩)
   refine⟨_,rfl,_,_,rfl,rfl,(show (0:Int)<2 by decide),rfl,_,rfl,_,rfl,ra,_,_,_,rfl,rfl,gf.of (outD F5 _ _ v1),zX (j:=1) rfl,d,_,rfl,uX.k (k:=.inr r.nm) gd5 (zP (m:=1000) (by omega)),?_⟩
   exact⟨_,_,_,_,rfl,F5.upd (List.mem_singleton.mpr rfl) _,zB,hB3.put r.nm _,Nat.le_trans (xC lb _ _) (by omega)⟩
 obtain⟨u5,u6,u7,u8,u9,lb,rfl,F,gd,hB,hlb⟩:=hR
 have Di:=outD F
 refine⟨_,rfl,_,rfl,d,lb,rfl,.inl gd,fun o=>?_⟩
 have kfz:∀ {b:Addr}{u:HO},H2 b=some u→(upd G' d (.ji o (.dK lb))) b=some u:=fun {b u} hb'=>by rw [zG (zC hb' fd2)];exact Di _ _ hb'
 have gfz:(upd G' d (.ji o (.dK lb))) d=some (.ji o (.dK lb)):=zB
 generalize upd G' d (.ji o (.dK lb))=G6 at kfz gfz
 have s6:aD H2 G6:=fun b u hb'=>kfz hb'
 refine Ed (kvs:=lb) (zP (m:=1000) (by omega)) (fun j ys G7=>aD G6 G7∧Paired (Wk G7) ys ((iV lb).take j)) ⟨aD.refl _,by rw [List.take_zero];exact .nil⟩ (fun j ys G7 hw=>hw.1 _ _ gfz) (fun j kv ys G7 hkv _ hw=>?_) (fun ys G7 hw p hp=>?_)
 · obtain⟨s7,hys⟩:=hw
   obtain⟨z,b,rfl⟩:=hB.2 kv (List.mem_of_getElem? hkv)
   refine Oe ?_
   refine⟨_,rfl,(by show 2≤sizeLine;decide),fun t1 ht1=>?_⟩
   have s8:=zH ht1 (.tup [.str z,.str ‹""›])
   have hv:bR lb (.inr z)=some (.bl b):=by
     have e:=hB.r z
     cases e2:bR lb (.inr z) with
     | none=>exact absurd (Jv e2) (by simp;exact⟨_,List.mem_of_getElem? hkv⟩)
     | some v =>
       have m1:=GQ e2
       have m2:=List.mem_of_getElem? hkv
       have:=Ij hB.1 m1 m2
       rw [this]
   refine⟨_,rfl,_,rfl,d,_,rfl,(by rw [← hv];exact Aw (k:=.inr z) (.inr ⟨o,(s7.trans s8) _ _ gfz⟩)),(by show 2≤sizeLine;decide),fun t2 ht2=>?_⟩
   have s9:=zH ht2 (.tup [.ref t1,.bl b])
   refine⟨(s7.trans s8).trans s9,?_⟩
   have hrow:(iV lb)[j]? = some (keyOf z,.bl b):=by unfold iV;rw [List.getElem?_map,hkv];rfl
   rw [xF hrow]
   exact yO (zJ hys fun _ _ r=>Dj (s8.trans s9) r) (.cons ⟨t2,t1,rfl,zB,s9 _ _ zB⟩ .nil)
 obtain⟨s7,hys⟩:=hw
 have lr:(iV lb).length=lb.length:=by unfold iV;rw [List.length_map]
 rw [← lr,List.take_length] at hys
 have s8:=zH hp (.lst ys)
 refine⟨p,ys,iV lb,rfl,zB,zJ hys fun _ _ r=>Dj s8 r,fun b hb'=>?_⟩
 have s9:=zH hb' (.dT (Ml (iV lb)))
 have gb:(upd (upd G7 p (.lst ys)) b (.dT (Ml (iV lb)))) b=some (.dT (Ml (iV lb))):=zB
 generalize upd (upd G7 p (.lst ys)) b (.dT (Ml (iV lb)))=G9 at s9 gb
 have s69:=(s7.trans s8).trans s9
 have s29:=s6.trans s69
 obtain⟨Lf,hF⟩:=R7 (bk:=FW lb) hG (SS ss).length 0 ⟨[],[],false⟩ (by omega)
 have Xw:∀ e∈Lf,Ent e:=Pj hF (fun e he=>by cases he)
 refine⟨pa,b,SS ss,_,FW lb,Lf,rfl,hPa.kq (.of s29),hG,gb,Ii hB,s29 _ _ hT2,hF,fun l1 ts G10 fl1 Qn Xm hts=>?_⟩
 dsimp only [bB,List.set_cons_succ,List.set_cons_zero]
 have Tc:=s29.trans Qn
 refine Mi fun _ hN2=>?_
 refine⟨_,rfl,_,_,_,_,rfl,rfl,.old (.lst Xm),T.Cz,_,rfl,bN ?_⟩
 refine⟨_,rfl,_,rfl,_,rfl,?_⟩
 refine⟨ls,xs,ss,d,lb,FW lb,Lf,rfl,Tc _ _ hls2,zJ S9 fun _ _=>Mp.same Tc,hG,.inr ⟨o,(s69.trans Qn) _ _ gfz⟩,hB.r,hF,fun l2 ts2 G11 fl2 s11 gl2 afL=>?_⟩
 have Td:=s11 _ _ Xm
 have Qu:Paired (wF G11) ts Lf:=zJ hts fun _ _=>wF.same s11
 refine⟨true,FT Td gl2 Qu afL Xw,_,rfl,bN (hN2 _ _ ?_)⟩
 refine⟨_,rfl,l1,rfl,⟨_,bQ.of Td⟩,?_⟩
 refine yY (xs:=ts) (fun j σ G12=>∃ u8,σ=[some (.ref a),some (.ref ls),some (.ref pa),some (.int (i:Int)),some (.ref d),u5,u6,u7,u8,u9,some (.ref l1)]∧G11=G12) ⟨_,rfl,rfl⟩ (fun j σ G12 hj hw=>?_) (fun j x σ G12 hx hw=>?_) (fun σ G12 hw=>?_)
 · obtain⟨_,rfl,rfl⟩:=hw
   exact bQ.of Td
 · obtain⟨u8',rfl,rfl⟩:=hw
   obtain⟨e,he,ta,rfl,Xx⟩:=yC Qu hx
   dsimp only [bB,List.set_cons_succ,List.set_cons_zero]
   refine⟨_,rfl,_,_,_,_,rfl,rfl,.old (.tup Xx),T.wO,_,rfl,bN ?_⟩
   rcases Xw e (List.mem_of_getElem? he) with ⟨w',n,rfl,hw'⟩ | ⟨n,b',rfl⟩ | rfl
   · exact⟨_,rfl,ta,_,_,_,rfl,rfl,gf.of Xx,zX (j:=0) rfl,rfl,_,rfl,Uu hw' (bN ⟨_,rfl,rfl⟩)⟩
   · refine⟨_,rfl,ta,_,_,_,rfl,rfl,gf.of Xx,zX (j:=0) rfl,rfl,_,rfl,eqS rfl ?_⟩
     exact⟨_,rfl,ta,_,_,_,rfl,rfl,gf.of Xx,zX (j:=3) rfl,_,_,_,_,rfl,rfl,.old (.bl _),T.tU,_,rfl,bN ⟨_,rfl,rfl⟩⟩
   · exact⟨_,rfl,ta,_,_,_,rfl,rfl,gf.of Xx,zX (j:=0) rfl,rfl,_,rfl,Uu (by symm) (bN ⟨_,rfl,rfl⟩)⟩
 · obtain⟨u8',rfl,rfl⟩:=hw
   exact⟨_,_,_,_,_,_,_,_,rfl,Tc.trans s11⟩
end
end jm
set_option maxHeartbeats 4000000
namespace jm
open PySem L2
theorem Ga {us:List Value}{n:Nat} (h:us.length=n+1):∃ a r,us=a::r∧r.length=n:=by
 cases us with
 | nil=>cases h
 | cons a r=>exact⟨a,r,rfl,Nat.succ.inj h⟩
theorem Xy {us:List Value} (h:us.length=0):us=[]:=List.eq_nil_of_length_eq_zero h
@[elab_as_elim] theorem Qv {motive:List Value→Prop} (us:List Value) (hl:us.length=1) (h:∀ a,motive [a]):motive us:=by
 obtain⟨a,r0,e0,h0⟩:=Ga hl
 rw [e0,Xy h0]
 exact h a
@[elab_as_elim] theorem Az {motive:List Value→Prop} (us:List Value) (hl:us.length=2) (h:∀ a b,motive [a,b]):motive us:=by
 obtain⟨a,r0,e0,h0⟩:=Ga hl
 obtain⟨b,r1,e1,h1⟩:=Ga h0
 rw [e0,e1,Xy h1]
 exact h a b
@[elab_as_elim] theorem Ik {motive:List Value→Prop} (us:List Value) (hl:us.length=3) (h:∀ a b c,motive [a,b,c]):motive us:=by
 obtain⟨a,r0,e0,h0⟩:=Ga hl
 obtain⟨b,r1,e1,h1⟩:=Ga h0
 obtain⟨c,r2,e2,h2⟩:=Ga h1
 rw [e0,e1,e2,Xy h2]
 exact h a b c
@[elab_as_elim] theorem UJ {motive:List Value→Prop} (us:List Value) (hl:us.length=4) (h:∀ a b c d,motive [a,b,c,d]):motive us:=by
 obtain⟨a,r0,e0,h0⟩:=Ga hl
 obtain⟨b,r1,e1,h1⟩:=Ga h0
 obtain⟨c,r2,e2,h2⟩:=Ga h1
 obtain⟨d,r3,e3,h3⟩:=Ga h2
 rw [e0,e1,e2,e3,Xy h3]
 exact h a b c d
@[elab_as_elim] theorem el5 {motive:List Value→Prop} (us:List Value) (hl:us.length=5) (h:∀ a b c d e,motive [a,b,c,d,e]):motive us:=by
 obtain⟨a,r0,e0,h0⟩:=Ga hl
 obtain⟨b,r1,e1,h1⟩:=Ga h0
 obtain⟨c,r2,e2,h2⟩:=Ga h1
 obtain⟨d,r3,e3,h3⟩:=Ga h2
 obtain⟨e,r4,e4,h4⟩:=Ga h3
 rw [e0,e1,e2,e3,e4,Xy h4]
 exact h a b c d e
theorem Te {K:W.Frag}{h:Heap}{mg:Str→Option Value} (X:K.In h) (G:h.Ns mainGlobals mg)
{f0 f1 f2 f3 f4 f5 f6 dT6 f7 dT7 f8 f9 f10 f11 f12 Xz UL UT UW U0 U3 U4 U5 U6 U7 U8 U9 Va Vb Vc f28 f29 Vd Tf Ve Vf Vg Vh Vi f36 f37 f38 f39 f40 f41 f42 f43 f44 f45:Addr}{od0 an0 od1 an1 od2 an2 od3 an3 od4 an4 od5 an5 od6 an6 dD6 od7 an7 dD7 od8 an8 od9 an9 afO XC afP XD afQ XF afR XH afS XJ afT XM afU XN afV XQ afW XR afX XS afY XX afZ X3 af0 X4 af1 X5 af2 X6 af3 X7 af4 X8 af5 Yb af6 Yc af7 Yd af8 Ye af9 aga Yg agb Yh agc Yi agd Yj age Yk agf Yl agg Ym agh Yn agi Yo agj Yp agk Yq agl Yr agm Ys agn Yt ago Yu:Option Addr}{sl0 sl1 sl2 sl3 sl4 sl5 sl6 dS6 sl7 dS7 sl8 sl9 agp agq agr ags agt agu agv agw agx agy agz agA agB agC agD agE agF agG agH agI agJ agK agL agM agN agO agP agQ agR agS agT agU agV agW agX agY agZ:Array (Option Value)}{oc0 kV0 dc0 pm0 cd0 ct0 oc1 kV1 dc1 pm1 cd1 ct1 oc2 kV2 dc2 pm2 cd2 ct2 oc3 kV3 dc3 pm3 cd3 ct3 oc4 kV4 dc4 pm4 cd4 ct4 oc5 kV5 dc5 pm5 cd5 ct5 oc6 kV6 dc6 pm6 cd6 ct6 oc7 kV7 dc7 pm7 cd7 ct7 oc8 kV8 dc8 pm8 cd8 ct8 oc9 kV9 dc9 pm9 cd9 ct9 aha Yv Yw Yx Tg Yy ahb Yz YB YC Th YD ahc YF YG YH Ti YJ ahd YK YL YM Tj YQ ahe YS YT YW Tn YX ahf YZ Y0 Y4 Tp Y5 ahg Y6 Y7 Y8 Tr Y9 ahh Za Zb Zc Tu Zd ahi Ze Zf Zg Tv Zh ahj Zi Zj Zk Tw Zm ahk Zn Zo Zq Tz Zr ahl Zt Zu Zv TF Zw ahm Zx Zy Zz TJ ZC ahn ZD ZF ZG TQ ZJ aho ZK ZL ZM TV ZP ahp ZQ ZR ZS TX ZV ahq ZW ZX ZZ TY Z0 ahr Z1 Z2 Z3 Pq Z4 ahs Z5 Z6 Z7 T4 Z8 aht Z9 aaa aab T5 aac ahu aad aae aaf T6 aag ahv aah aai aaj T7 aak ahw aal aam aan T8 aao ahx aap aaq aar T9 aas ahy aat aau aav Ua aaw ahz aax aay aaz Ub aaA ahA aaB aaC aaD Uc aaE ahB aaF aaG aaH Ud aaI ahC aaJ aaK aaL Ue aaM ahD aaN aaO aaP Ug aaQ ahE aaR aaS aaT Uh aaU ahF aaV aaW aaX Ui aaY ahG aaZ aa0 aa1 Uj aa2 ahH aa3 aa4 aa5 Uk aa6 ahI aa7 aa8 aa9 Ul aba ahJ abb abd abe Um abf:Value}{dN6 dN7 ahK:Nat}
 {ga0:Addr}{go0:Value}{gd0:Option Addr}{gn0:Nat}{ge0:Array DictEntry}{gs0:Array (Option Value)}
{fV cR dC oO tG jK d7 tH yg dH aA bV mc mP:Addr}{Uo Pr:ClassData}{mt:Value}{mod:Option Addr}{mvs:Array Value}{msl:Array (Option Value)}
 (h5m:W.nsIn K mainGlobals "Ask" = some (some (.ref fV)))
 (h5n:W.nsIn K mainGlobals "Check" = some (some (.ref cR)))
 (h5o:W.nsIn K mainGlobals "Going" = some (some (.ref dC)))
 (h5p:W.nsIn K mainGlobals "Is" = some (some (.ref oO)))
 (h5q:W.nsIn K mainGlobals "Kind" = some (some (.ref tG)))
 (h5r:W.nsIn K mainGlobals "Not" = some (some (.ref jK)))
 (h5s:W.nsIn K mainGlobals "Paper" = some (some (.ref d7)))
 (h5t:W.nsIn K mainGlobals "Pick" = some (some (.ref tH)))
 (h5u:W.nsIn K mainGlobals "Row" = some (some (.ref yg)))
 (h5v:W.nsIn K mainGlobals "Sheet" = some (some (.ref dH)))
 (h5w:W.nsIn K mainGlobals "Straight" = some (some (.ref aA)))
 (h5x:W.nsIn K mainGlobals "YesNo" = some (some (.ref bV)))
 (h00:W.findIn K (.ref tG) "__init__" = some (some (.ref f0)))
 (h01:K.lookup f0=some ⟨oc0,od0,.func (W.fnOf "__init__" "Kind.__init__" (ao bu) (ak bu) (aa bu) .none kV0 dc0 pm0 an0 cd0 ct0),sl0⟩)
 (h02:W.codeIn K cd0 "Kind.__init__" = true)
 (h03:W.keepIn K (.ref f0)=true)
 (h04:W.findIn K (.ref bV) "__init__" = some (some (.ref f1)))
 (h05:K.lookup f1=some ⟨oc1,od1,.func (W.fnOf "__init__" "YesNo.__init__" (ao aX) (ak aX) (aa aX) .none kV1 dc1 pm1 an1 cd1 ct1),sl1⟩)
 (h06:W.codeIn K cd1 "YesNo.__init__" = true)
 (h07:W.keepIn K (.ref f1)=true)
 (h08:W.findIn K (.ref bV) "fits" = some (some (.ref f2)))
 (h09:K.lookup f2=some ⟨oc2,od2,.func (W.fnOf "fits" "YesNo.fits" (ao bD) (ak bD) (aa bD) .none kV2 dc2 pm2 an2 cd2 ct2),sl2⟩)
 (h0a:W.codeIn K cd2 "YesNo.fits" = true)
 (h0b:W.keepIn K (.ref f2)=true)
 (h0c:W.findIn K (.ref bV) "answer_of" = some (some (.ref f3)))
 (h0d:K.lookup f3=some ⟨oc3,od3,.func (W.fnOf "answer_of" "YesNo.answer_of" (ao aP) (ak aP) (aa aP) .none kV3 dc3 pm3 an3 cd3 ct3),sl3⟩)
 (h0e:W.codeIn K cd3 "YesNo.answer_of" = true)
 (h0f:W.keepIn K (.ref f3)=true)
 (h0g:W.findIn K (.ref bV) "rank" = some (some (.ref f4)))
 (h0h:K.lookup f4=some ⟨oc4,od4,.func (W.fnOf "rank" "YesNo.rank" (ao bF) (ak bF) (aa bF) .none kV4 dc4 pm4 an4 cd4 ct4),sl4⟩)
 (h0i:W.codeIn K cd4 "YesNo.rank" = true)
 (h0j:W.keepIn K (.ref f4)=true)
 (h0k:W.findIn K (.ref yg) "__init__" = some (some (.ref f5)))
 (h0l:K.lookup f5=some ⟨oc5,od5,.func (W.fnOf "__init__" "Row.__init__" (ao bG) (ak bG) (aa bG) .none kV5 dc5 pm5 an5 cd5 ct5),sl5⟩)
 (h0m:W.codeIn K cd5 "Row.__init__" = true)
 (h0n:W.keepIn K (.ref f5)=true)
 (h0o:W.findIn K (.ref fV) "__init__" = some (some (.ref f6)))
 (h0p:K.lookup f6=some ⟨oc6,od6,.func (W.fnOf "__init__" "Ask.__init__" (ao bH) (ak bH) (aa bH) (.ref dT6) kV6 dc6 pm6 an6 cd6 ct6),sl6⟩)
 (h0q:W.codeIn K cd6 "Ask.__init__" = true)
 (h0r:W.keepIn K (.ref f6)=true)
 (h0s:K.lookup dT6=some ⟨.type "tuple",dD6,.seq ([.none]:List Value).toArray dN6,dS6⟩)
 (h0t:W.findIn K (.ref cR) "__init__" = some (some (.ref f7)))
 (h0u:K.lookup f7=some ⟨oc7,od7,.func (W.fnOf "__init__" "Check.__init__" (ao aY) (ak aY) (aa aY) (.ref dT7) kV7 dc7 pm7 an7 cd7 ct7),sl7⟩)
 (h0v:W.codeIn K cd7 "Check.__init__" = true)
 (h0w:W.keepIn K (.ref f7)=true)
 (h0x:K.lookup dT7=some ⟨.type "tuple",dD7,.seq ([(.bool true)]:List Value).toArray dN7,dS7⟩)
 (h0y:W.findIn K (.ref dH) "__init__" = some (some (.ref f8)))
 (h0z:K.lookup f8=some ⟨oc8,od8,.func (W.fnOf "__init__" "Sheet.__init__" (ao aZ) (ak aZ) (aa aZ) .none kV8 dc8 pm8 an8 cd8 ct8),sl8⟩)
 (h10:W.codeIn K cd8 "Sheet.__init__" = true)
 (h11:W.keepIn K (.ref f8)=true)
 (h12:W.findIn K (.ref d7) "__init__" = some (some (.ref f9)))
 (h13:K.lookup f9=some ⟨oc9,od9,.func (W.fnOf "__init__" "Paper.__init__" (ao bc) (ak bc) (aa bc) .none kV9 dc9 pm9 an9 cd9 ct9),sl9⟩)
 (h14:W.codeIn K cd9 "Paper.__init__" = true)
 (h15:W.keepIn K (.ref f9)=true)
 (h16:W.nsIn K mainGlobals "kinds_of" = some (some (.ref f10)))
 (h17:K.lookup f10=some ⟨aha,afO,.func (W.fnOf "kinds_of" "kinds_of" (ao cT) (ak cT) (aa cT) .none Yv Yw Yx XC Tg Yy),agp⟩)
 (h18:W.codeIn K Tg "kinds_of" = true)
 (h19:W.keepIn K (.ref f10)=true)
 (h1a:W.nsIn K mainGlobals "eaches_of" = some (some (.ref f11)))
 (h1b:K.lookup f11=some ⟨ahb,afP,.func (W.fnOf "eaches_of" "eaches_of" (ao cD) (ak cD) (aa cD) .none Yz YB YC XD Th YD),agq⟩)
 (h1c:W.codeIn K Th "eaches_of" = true)
 (h1d:W.keepIn K (.ref f11)=true)
 (h1e:W.nsIn K mainGlobals "all_together" = some (some (.ref f12)))
 (h1f:K.lookup f12=some ⟨ahc,afQ,.func (W.fnOf "all_together" "all_together" (ao bI) (ak bI) (aa bI) .none YF YG YH XF Ti YJ),agr⟩)
 (h1g:W.codeIn K Ti "all_together" = true)
 (h1h:W.keepIn K (.ref f12)=true)
 (h1i:W.findIn K (.ref dC) "__init__" = some (some (.ref Xz)))
 (h1j:K.lookup Xz=some ⟨ahd,afR,.func (W.fnOf "__init__" "Going.__init__" (ao bf) (ak bf) (aa bf) .none YK YL YM XH Tj YQ),ags⟩)
 (h1k:W.codeIn K Tj "Going.__init__" = true)
 (h1l:W.keepIn K (.ref Xz)=true)
 (h1m:W.findIn K (.ref dC) "note" = some (some (.ref UL)))
 (h1n:K.lookup UL=some ⟨ahe,afS,.func (W.fnOf "note" "Going.note" (ao bJ) (ak bJ) (aa bJ) .none YS YT YW XJ Tn YX),agt⟩)
 (h1o:W.codeIn K Tn "Going.note" = true)
 (h1p:W.keepIn K (.ref UL)=true)
 (h1q:W.findIn K (.ref dC) "own_thing" = some (some (.ref UT)))
 (h1r:K.lookup UT=some ⟨ahf,afT,.func (W.fnOf "own_thing" "Going.own_thing" (ao aQ) (ak aQ) (aa aQ) .none YZ Y0 Y4 XM Tp Y5),agu⟩)
 (h1s:W.codeIn K Tp "Going.own_thing" = true)
 (h1t:W.keepIn K (.ref UT)=true)
 (h1u:W.findIn K (.ref dC) "known_of" = some (some (.ref UW)))
 (h1v:K.lookup UW=some ⟨ahg,afU,.func (W.fnOf "known_of" "Going.known_of" (ao aV) (ak aV) (aa aV) .none Y6 Y7 Y8 XN Tr Y9),agv⟩)
 (h1w:W.codeIn K Tr "Going.known_of" = true)
 (h1x:W.keepIn K (.ref UW)=true)
 (h1y:W.findIn K (.ref dC) "stop_with" = some (some (.ref U0)))
 (h1z:K.lookup U0=some ⟨ahh,afV,.func (W.fnOf "stop_with" "Going.stop_with" (ao aR) (ak aR) (aa aR) .none Za Zb Zc XQ Tu Zd),agw⟩)
 (h20:W.codeIn K Tu "Going.stop_with" = true)
 (h21:W.keepIn K (.ref U0)=true)
 (h22:W.findIn K (.ref dC) "take_check" = some (some (.ref U3)))
 (h23:K.lookup U3=some ⟨ahi,afW,.func (W.fnOf "take_check" "Going.take_check" (ao aH) (ak aH) (aa aH) .none Ze Zf Zg XR Tv Zh),agx⟩)
 (h24:W.codeIn K Tv "Going.take_check" = true)
 (h25:W.keepIn K (.ref U3)=true)
 (h26:W.findIn K (.ref dC) "go_through" = some (some (.ref U4)))
 (h27:K.lookup U4=some ⟨ahj,afX,.func (W.fnOf "go_through" "Going.go_through" (ao aJ) (ak aJ) (aa aJ) .none Zi Zj Zk XS Tw Zm),agy⟩)
 (h28:W.codeIn K Tw "Going.go_through" = true)
 (h29:W.keepIn K (.ref U4)=true)
 (h2a:W.findIn K (.ref dC) "targets_of" = some (some (.ref U5)))
 (h2b:K.lookup U5=some ⟨ahk,afY,.func (W.fnOf "targets_of" "Going.targets_of" (ao aK) (ak aK) (aa aK) .none Zn Zo Zq XX Tz Zr),agz⟩)
 (h2c:W.codeIn K Tz "Going.targets_of" = true)
 (h2d:W.keepIn K (.ref U5)=true)
 (h2e:W.findIn K (.ref dC) "leave" = some (some (.ref U6)))
 (h2f:K.lookup U6=some ⟨ahl,afZ,.func (W.fnOf "leave" "Going.leave" (ao bw) (ak bw) (aa bw) .none Zt Zu Zv X3 TF Zw),agA⟩)
 (h2g:W.codeIn K TF "Going.leave" = true)
 (h2h:W.keepIn K (.ref U6)=true)
 (h2i:W.findIn K (.ref dC) "go" = some (some (.ref U7)))
 (h2j:K.lookup U7=some ⟨ahm,af0,.func (W.fnOf "go" "Going.go" (ao bY) (ak bY) (aa bY) .none Zx Zy Zz X4 TJ ZC),agB⟩)
 (h2k:W.codeIn K TJ "Going.go" = true)
 (h2l:W.keepIn K (.ref U7)=true)
 (h2m:W.findIn K (.ref aA) "__init__" = some (some (.ref U8)))
 (h2n:K.lookup U8=some ⟨ahn,af1,.func (W.fnOf "__init__" "Straight.__init__" (ao aU) (ak aU) (aa aU) .none ZD ZF ZG X5 TQ ZJ),agC⟩)
 (h2o:W.codeIn K TQ "Straight.__init__" = true)
 (h2p:W.keepIn K (.ref U8)=true)
 (h2q:W.findIn K (.ref aA) "things_of" = some (some (.ref U9)))
 (h2r:K.lookup U9=some ⟨aho,af2,.func (W.fnOf "things_of" "Straight.things_of" (ao aG) (ak aG) (aa aG) .none ZK ZL ZM X6 TV ZP),agD⟩)
 (h2s:W.codeIn K TV "Straight.things_of" = true)
 (h2t:W.keepIn K (.ref U9)=true)
 (h2u:W.findIn K (.ref aA) "put" = some (some (.ref Va)))
 (h2v:K.lookup Va=some ⟨ahp,af3,.func (W.fnOf "put" "Straight.put" (ao bh) (ak bh) (aa bh) .none ZQ ZR ZS X7 TX ZV),agE⟩)
 (h2w:W.codeIn K TX "Straight.put" = true)
 (h2x:W.keepIn K (.ref Va)=true)
 (h2y:W.findIn K (.ref aA) "rank_of" = some (some (.ref Vb)))
 (h2z:K.lookup Vb=some ⟨ahq,af4,.func (W.fnOf "rank_of" "Straight.rank_of" (ao aL) (ak aL) (aa aL) .none ZW ZX ZZ X8 TY Z0),agF⟩)
 (h30:W.codeIn K TY "Straight.rank_of" = true)
 (h31:W.keepIn K (.ref Vb)=true)
 (h32:W.findIn K (.ref aA) "is_so" = some (some (.ref Vc)))
 (h33:K.lookup Vc=some ⟨ahr,af5,.func (W.fnOf "is_so" "Straight.is_so" (ao aB) (ak aB) (aa aB) .none Z1 Z2 Z3 Yb Pq Z4),agG⟩)
 (h34:W.codeIn K Pq "Straight.is_so" = true)
 (h35:W.keepIn K (.ref Vc)=true)
 (h36:W.nsIn K mainGlobals "straight" = some (some (.ref f28)))
 (h37:K.lookup f28=some ⟨ahs,af6,.func (W.fnOf "straight" "straight" (ao cU) (ak cU) (aa cU) .none Z5 Z6 Z7 Yc T4 Z8),agH⟩)
 (h38:W.codeIn K T4 "straight" = true)
 (h39:W.keepIn K (.ref f28)=true)
 (h3a:W.nsIn K mainGlobals "compares" = some (some (.ref f29)))
 (h3b:K.lookup f29=some ⟨aht,af7,.func (W.fnOf "compares" "compares" (ao cV) (ak cV) (aa cV) .none Z9 aaa aab Yd T5 aac),agI⟩)
 (h3c:W.codeIn K T5 "compares" = true)
 (h3d:W.keepIn K (.ref f29)=true)
 (h3e:W.findIn K (.ref oO) "__init__" = some (some (.ref Vd)))
 (h3f:K.lookup Vd=some ⟨ahu,af8,.func (W.fnOf "__init__" "Is.__init__" (ao bK) (ak bK) (aa bK) (.ref Tf) aad aae aaf Ye T6 aag),agJ⟩)
 (h3g:W.codeIn K T6 "Is.__init__" = true)
 (h3h:W.keepIn K (.ref Vd)=true)
 (h3i:K.lookup Tf=some ⟨.type "tuple",af9,.seq ([.none]:List Value).toArray ahK,agK⟩)
 (h3j:W.findIn K (.ref oO) "settled" = some (some (.ref Ve)))
 (h3k:K.lookup Ve=some ⟨ahv,aga,.func (W.fnOf "settled" "Is.settled" (ao bL) (ak bL) (aa bL) .none aah aai aaj Yg T7 aak),agL⟩)
 (h3l:W.codeIn K T7 "Is.settled" = true)
 (h3m:W.keepIn K (.ref Ve)=true)
 (h3n:W.findIn K (.ref oO) "holds" = some (some (.ref Vf)))
 (h3o:K.lookup Vf=some ⟨ahw,agb,.func (W.fnOf "holds" "Is.holds" (ao bZ) (ak bZ) (aa bZ) .none aal aam aan Yh T8 aao),agM⟩)
 (h3p:W.codeIn K T8 "Is.holds" = true)
 (h3q:W.keepIn K (.ref Vf)=true)
 (h3r:W.findIn K (.ref jK) "__init__" = some (some (.ref Vg)))
 (h3s:K.lookup Vg=some ⟨ahx,agc,.func (W.fnOf "__init__" "Not.__init__" (ao bM) (ak bM) (aa bM) .none aap aaq aar Yi T9 aas),agN⟩)
 (h3t:W.codeIn K T9 "Not.__init__" = true)
 (h3u:W.keepIn K (.ref Vg)=true)
 (h3v:W.findIn K (.ref jK) "settled" = some (some (.ref Vh)))
 (h3w:K.lookup Vh=some ⟨ahy,agd,.func (W.fnOf "settled" "Not.settled" (ao bx) (ak bx) (aa bx) .none aat aau aav Yj Ua aaw),agO⟩)
 (h3x:W.codeIn K Ua "Not.settled" = true)
 (h3y:W.keepIn K (.ref Vh)=true)
 (h3z:W.findIn K (.ref jK) "holds" = some (some (.ref Vi)))
 (h40:K.lookup Vi=some ⟨ahz,age,.func (W.fnOf "holds" "Not.holds" (ao bT) (ak bT) (aa bT) .none aax aay aaz Yk Ub aaA),agP⟩)
 (h41:W.codeIn K Ub "Not.holds" = true)
 (h42:W.keepIn K (.ref Vi)=true)
 (h43:W.nsIn K mainGlobals "_law_cell" = some (some (.ref f36)))
 (h44:K.lookup f36=some ⟨ahA,agf,.func (W.fnOf "_law_cell" "_law_cell" (ao cW) (ak cW) (aa cW) .none aaB aaC aaD Yl Uc aaE),agQ⟩)
 (h45:W.codeIn K Uc "_law_cell" = true)
 (h46:W.keepIn K (.ref f36)=true)
 (h47:W.nsIn K mainGlobals "_law_name" = some (some (.ref f37)))
 (h48:K.lookup f37=some ⟨ahB,agg,.func (W.fnOf "_law_name" "_law_name" (ao cX) (ak cX) (aa cX) .none aaF aaG aaH Ym Ud aaI),agR⟩)
 (h49:W.codeIn K Ud "_law_name" = true)
 (h4a:W.keepIn K (.ref f37)=true)
 (h4b:W.nsIn K mainGlobals "_law_saying" = some (some (.ref f38)))
 (h4c:K.lookup f38=some ⟨ahC,agh,.func (W.fnOf "_law_saying" "_law_saying" (ao b7) (ak b7) (aa b7) .none aaJ aaK aaL Yn Ue aaM),agS⟩)
 (h4d:W.codeIn K Ue "_law_saying" = true)
 (h4e:W.keepIn K (.ref f38)=true)
 (h4f:W.nsIn K mainGlobals "_law_spoken" = some (some (.ref f39)))
 (h4g:K.lookup f39=some ⟨ahD,agi,.func (W.fnOf "_law_spoken" "_law_spoken" (ao b8) (ak b8) (aa b8) .none aaN aaO aaP Yo Ug aaQ),agT⟩)
 (h4h:W.codeIn K Ug "_law_spoken" = true)
 (h4i:W.keepIn K (.ref f39)=true)
 (h4j:W.nsIn K mainGlobals "_law_sheets" = some (some (.ref f40)))
 (h4k:K.lookup f40=some ⟨ahE,agj,.func (W.fnOf "_law_sheets" "_law_sheets" (ao cg) (ak cg) (aa cg) .none aaR aaS aaT Yp Uh aaU),agU⟩)
 (h4l:W.codeIn K Uh "_law_sheets" = true)
 (h4m:W.keepIn K (.ref f40)=true)
 (h4n:W.nsIn K mainGlobals "_law_holds" = some (some (.ref f41)))
 (h4o:K.lookup f41=some ⟨ahF,agk,.func (W.fnOf "_law_holds" "_law_holds" (ao cF) (ak cF) (aa cF) .none aaV aaW aaX Yq Ui aaY),agV⟩)
 (h4p:W.codeIn K Ui "_law_holds" = true)
 (h4q:W.keepIn K (.ref f41)=true)
 (h4r:W.nsIn K mainGlobals "_law_rows" = some (some (.ref f42)))
 (h4s:K.lookup f42=some ⟨ahG,agl,.func (W.fnOf "_law_rows" "_law_rows" (ao cY) (ak cY) (aa cY) .none aaZ aa0 aa1 Yr Uj aa2),agW⟩)
 (h4t:W.codeIn K Uj "_law_rows" = true)
 (h4u:W.keepIn K (.ref f42)=true)
 (h4v:W.nsIn K mainGlobals "_law_going" = some (some (.ref f43)))
 (h4w:K.lookup f43=some ⟨ahH,agm,.func (W.fnOf "_law_going" "_law_going" (ao cG) (ak cG) (aa cG) .none aa3 aa4 aa5 Ys Uk aa6),agX⟩)
 (h4x:W.codeIn K Uk "_law_going" = true)
 (h4y:W.keepIn K (.ref f43)=true)
 (h4z:W.nsIn K mainGlobals "_law_paper" = some (some (.ref f44)))
 (h50:K.lookup f44=some ⟨ahI,agn,.func (W.fnOf "_law_paper" "_law_paper" (ao cH) (ak cH) (aa cH) .none aa7 aa8 aa9 Yt Ul aba),agY⟩)
 (h51:W.codeIn K Ul "_law_paper" = true)
 (h52:W.keepIn K (.ref f44)=true)
 (h53:W.nsIn K mainGlobals "law" = some (some (.ref f45)))
 (h54:K.lookup f45=some ⟨ahJ,ago,.func (W.fnOf "law" "law" (ao qK) (ak qK) (aa qK) .none abb abd abe Yu Um abf),agZ⟩)
 (h55:W.codeIn K Um "law" = true)
 (h56:W.keepIn K (.ref f45)=true)
 (h57:W.nsIn K mainGlobals "WRITTEN_TRUTHS" = some (some (.ref ga0)))
 (h58:K.lookup ga0=some ⟨go0,gd0,.dict ge0 gn0,gs0⟩)
 (h59:(ga0 == sysModules)=false)
 (h5a:go0=.type "dict")
 (h5b:gd0=none)
 (h5c:gs0=#[])
 (h5d:PyProof.Rows.KTD.Rows (fun (b:Bool) (v:Value)=>v=.bool b) ge0.toList [("yes",true),("no",false)])
 (h5e:W.nsIn K mainGlobals "bool" = some none)
 (h5f:W.nsIn K mainGlobals "dict" = some none)
 (h5g:W.nsIn K mainGlobals "enumerate" = some none)
 (h5h:W.nsIn K mainGlobals "isinstance" = some none)
 (h5i:W.nsIn K mainGlobals "len" = some none)
 (h5j:W.nsIn K mainGlobals "list" = some none)
 (h5k:W.nsIn K mainGlobals "range" = some none)
 (h5l:W.nsIn K mainGlobals "tuple" = some none)
 (h5y:W.clsIn K fV=some Uo)
 (h5z:W.typeIn K (.ref fV)=some (.type "type"))
 (h60:W.clsIn K tH=some Pr)
 (h61:W.typeIn K (.ref tH)=some (.type "type"))
 (h62:W.mroIn K cR (.ref fV)=some false)
 (h63:(Value.ref cR == Value.ref fV)=false)
 (h64:W.mroIn K bV (.ref tH)=some false)
 (h65:(Value.ref bV == Value.ref tH)=false)
 (h66:W.plainGet K bV Str.empty=true)
 (h67:W.hasDictIn K bV=true)
 (h68:W.plainOver K bV=true)
 (h69:W.findIn K (.ref bV) "__setattr__" = some (some (.builtin "object.__setattr__")))
 (h6a:W.findIn K (.ref bV) "__class__" = some (some (.builtin "object.__class__")))
 (h6b:W.specialIn K (.builtin "object.__class__") "__get__" = some (some (.builtin "getset_descriptor.__get__")))
 (h6c:W.takesIn K (.builtin "object.__class__")=some true)
 (h6d:W.mroIn K bV (.type "object")=some true)
 (h6e:W.makesIn K bV=true)
 (h6f:W.findIn K (.ref bV) "__init__" = some (some (.ref f1)))
 (h6g:W.isFn K (.ref f1)=true)
 (h6h:W.keepIn K (.ref bV)=true)
 (h6i:W.findIn K (.ref bV) "fits" = some (some (.ref f2)))
 (h6j:W.isFn K (.ref f2)=true)
 (h6k:W.findIn K (.ref bV) "answer_of" = some (some (.ref f3)))
 (h6l:W.isFn K (.ref f3)=true)
 (h6m:W.findIn K (.ref bV) "rank" = some (some (.ref f4)))
 (h6n:W.isFn K (.ref f4)=true)
 (h6o:W.findIn K (.ref bV) "low" = some none)
 (h6p:W.findIn K (.ref bV) "high" = some none)
 (h6q:W.plainGet K fV Str.empty=true)
 (h6r:W.hasDictIn K fV=true)
 (h6s:W.plainOver K fV=true)
 (h6t:W.findIn K (.ref fV) "__setattr__" = some (some (.builtin "object.__setattr__")))
 (h6u:W.findIn K (.ref fV) "__class__" = some (some (.builtin "object.__class__")))
 (h6v:W.specialIn K (.builtin "object.__class__") "__get__" = some (some (.builtin "getset_descriptor.__get__")))
 (h6w:W.takesIn K (.builtin "object.__class__")=some true)
 (h6x:W.mroIn K fV (.type "object")=some true)
 (h6y:W.makesIn K fV=true)
 (h6z:W.findIn K (.ref fV) "__init__" = some (some (.ref f6)))
 (h70:W.isFn K (.ref f6)=true)
 (h71:W.keepIn K (.ref fV)=true)
 (h72:W.findIn K (.ref fV) "name" = some none)
 (h73:W.findIn K (.ref fV) "kind" = some none)
 (h74:W.findIn K (.ref fV) "when" = some none)
 (h75:W.plainGet K cR Str.empty=true)
 (h76:W.hasDictIn K cR=true)
 (h77:W.plainOver K cR=true)
 (h78:W.findIn K (.ref cR) "__setattr__" = some (some (.builtin "object.__setattr__")))
 (h79:W.findIn K (.ref cR) "__class__" = some (some (.builtin "object.__class__")))
 (h7a:W.specialIn K (.builtin "object.__class__") "__get__" = some (some (.builtin "getset_descriptor.__get__")))
 (h7b:W.takesIn K (.builtin "object.__class__")=some true)
 (h7c:W.mroIn K cR (.type "object")=some true)
 (h7d:W.makesIn K cR=true)
 (h7e:W.findIn K (.ref cR) "__init__" = some (some (.ref f7)))
 (h7f:W.isFn K (.ref f7)=true)
 (h7g:W.keepIn K (.ref cR)=true)
 (h7h:W.findIn K (.ref cR) "name" = some none)
 (h7i:W.findIn K (.ref cR) "test" = some none)
 (h7j:W.findIn K (.ref cR) "firm" = some none)
 (h7k:W.plainGet K dH Str.empty=true)
 (h7l:W.hasDictIn K dH=true)
 (h7m:W.plainOver K dH=true)
 (h7n:W.findIn K (.ref dH) "__setattr__" = some (some (.builtin "object.__setattr__")))
 (h7o:W.makesIn K dH=true)
 (h7p:W.findIn K (.ref dH) "__init__" = some (some (.ref f8)))
 (h7q:W.isFn K (.ref f8)=true)
 (h7r:W.keepIn K (.ref dH)=true)
 (h7s:W.findIn K (.ref dH) "name" = some none)
 (h7t:W.findIn K (.ref dH) "each" = some none)
 (h7u:W.findIn K (.ref dH) "rows" = some none)
 (h7v:W.findIn K (.ref dH) "ways" = some none)
 (h7w:W.plainGet K d7 Str.empty=true)
 (h7x:W.hasDictIn K d7=true)
 (h7y:W.plainOver K d7=true)
 (h7z:W.findIn K (.ref d7) "__setattr__" = some (some (.builtin "object.__setattr__")))
 (h80:W.makesIn K d7=true)
 (h81:W.findIn K (.ref d7) "__init__" = some (some (.ref f9)))
 (h82:W.isFn K (.ref f9)=true)
 (h83:W.keepIn K (.ref d7)=true)
 (h84:W.findIn K (.ref d7) "name" = some none)
 (h85:W.findIn K (.ref d7) "sheets" = some none)
 (h86:W.findIn K (.ref d7) "totals" = some none)
 (h87:W.plainGet K aA Str.empty=true)
 (h88:W.hasDictIn K aA=true)
 (h89:W.plainOver K aA=true)
 (h8a:W.findIn K (.ref aA) "__setattr__" = some (some (.builtin "object.__setattr__")))
 (h8b:W.makesIn K aA=true)
 (h8c:W.findIn K (.ref aA) "__init__" = some (some (.ref U8)))
 (h8d:W.isFn K (.ref U8)=true)
 (h8e:W.keepIn K (.ref aA)=true)
 (h8f:W.findIn K (.ref aA) "things_of" = some (some (.ref U9)))
 (h8g:W.isFn K (.ref U9)=true)
 (h8h:W.findIn K (.ref aA) "put" = some (some (.ref Va)))
 (h8i:W.isFn K (.ref Va)=true)
 (h8j:W.findIn K (.ref aA) "is_so" = some (some (.ref Vc)))
 (h8k:W.isFn K (.ref Vc)=true)
 (h8l:W.findIn K (.ref aA) "note" = some (some (.ref UL)))
 (h8m:W.isFn K (.ref UL)=true)
 (h8n:W.findIn K (.ref aA) "stop_with" = some (some (.ref U0)))
 (h8o:W.isFn K (.ref U0)=true)
 (h8p:W.findIn K (.ref aA) "take_check" = some (some (.ref U3)))
 (h8q:W.isFn K (.ref U3)=true)
 (h8r:W.findIn K (.ref aA) "go_through" = some (some (.ref U4)))
 (h8s:W.isFn K (.ref U4)=true)
 (h8t:W.findIn K (.ref aA) "targets_of" = some (some (.ref U5)))
 (h8u:W.isFn K (.ref U5)=true)
 (h8v:W.findIn K (.ref aA) "leave" = some (some (.ref U6)))
 (h8w:W.isFn K (.ref U6)=true)
 (h8x:W.findIn K (.ref aA) "go" = some (some (.ref U7)))
 (h8y:W.isFn K (.ref U7)=true)
 (h8z:W.findIn K (.ref aA) "own_thing" = some (some (.ref UT)))
 (h90:W.isFn K (.ref UT)=true)
 (h91:W.findIn K (.ref aA) "known_of" = some (some (.ref UW)))
 (h92:W.isFn K (.ref UW)=true)
 (h93:W.findIn K (.ref aA) "rank_of" = some (some (.ref Vb)))
 (h94:W.isFn K (.ref Vb)=true)
 (h95:W.findIn K (.ref aA) "paper" = some none)
 (h96:W.findIn K (.ref aA) "alone" = some none)
 (h97:W.findIn K (.ref aA) "kinds" = some none)
 (h98:W.findIn K (.ref aA) "eaches" = some none)
 (h99:W.findIn K (.ref aA) "together" = some none)
 (h9a:W.findIn K (.ref aA) "asked" = some none)
 (h9b:W.findIn K (.ref aA) "log" = some none)
 (h9c:W.findIn K (.ref aA) "doubles" = some none)
 (h9d:W.findIn K (.ref aA) "over" = some none)
 (h9e:W.findIn K (.ref aA) "book" = some none)
 (h9f:W.plainGet K oO Str.empty=true)
 (h9g:W.hasDictIn K oO=true)
 (h9h:W.plainOver K oO=true)
 (h9i:W.findIn K (.ref oO) "__setattr__" = some (some (.builtin "object.__setattr__")))
 (h9j:W.makesIn K oO=true)
 (h9k:W.findIn K (.ref oO) "__init__" = some (some (.ref Vd)))
 (h9l:W.isFn K (.ref Vd)=true)
 (h9m:W.keepIn K (.ref oO)=true)
 (h9n:W.findIn K (.ref oO) "settled" = some (some (.ref Ve)))
 (h9o:W.isFn K (.ref Ve)=true)
 (h9p:W.findIn K (.ref oO) "holds" = some (some (.ref Vf)))
 (h9q:W.isFn K (.ref Vf)=true)
 (h9r:W.findIn K (.ref oO) "name" = some none)
 (h9s:W.findIn K (.ref oO) "word" = some none)
 (h9t:W.findIn K (.ref oO) "place" = some none)
 (h9u:W.plainGet K jK Str.empty=true)
 (h9v:W.hasDictIn K jK=true)
 (h9w:W.plainOver K jK=true)
 (h9x:W.findIn K (.ref jK) "__setattr__" = some (some (.builtin "object.__setattr__")))
 (h9y:W.makesIn K jK=true)
 (h9z:W.findIn K (.ref jK) "__init__" = some (some (.ref Vg)))
 (ha0:W.isFn K (.ref Vg)=true)
 (ha1:W.keepIn K (.ref jK)=true)
 (ha2:W.findIn K (.ref jK) "settled" = some (some (.ref Vh)))
 (ha3:W.isFn K (.ref Vh)=true)
 (ha4:W.findIn K (.ref jK) "holds" = some (some (.ref Vi)))
 (ha5:W.isFn K (.ref Vi)=true)
 (ha6:W.findIn K (.ref jK) "test" = some none)
 (ha7:W.readsIn K dC (.type "type")=true)
 (ha8:W.findCls K (.ref dC) (.type "type") "__init__" = some (.val (.ref Xz)))
 (ha9:W.specialIn K (.ref dC) "__getattribute__" = some (some (.builtin "type.__getattribute__")))
 (haa:W.readsIn K tG (.type "type")=true)
 (hab:W.findCls K (.ref tG) (.type "type") "__init__" = some (.val (.ref f0)))
 (hac:W.specialIn K (.ref tG) "__getattribute__" = some (some (.builtin "type.__getattribute__")))
 (had:W.readsIn K yg (.type "type")=true)
 (hae:W.findCls K (.ref yg) (.type "type") "__init__" = some (.val (.ref f5)))
 (haf:W.specialIn K (.ref yg) "__getattribute__" = some (some (.builtin "type.__getattribute__")))
 (mk1:Pq=.ref mc)
 (mk2:K.lookup mc=some ⟨mt,mod,.fields mvs,msl⟩)
 (mk3:mvs[11]? = some (.ref mP))
 (mk4:W.codeHdIn K mc mP=true)
 (mk5:K.lookup mP=none)
 (mk6:h.get? mP=some (W.tabObj #[])) :
 ∃ A:cJ,Txt K mg A∧∃ c P,A.aF.code=.ref c∧W.codeHdIn K c P=true∧K.lookup P=none∧h.get? P=some (W.tabObj #[]) :=
 ⟨⟨f0,
   W.fnOf "__init__" "Kind.__init__" (ao bu) (ak bu) (aa bu) .none kV0 dc0 pm0 an0 cd0 ct0,
   f1,
   W.fnOf "__init__" "YesNo.__init__" (ao aX) (ak aX) (aa aX) .none kV1 dc1 pm1 an1 cd1 ct1,
   f2,
   W.fnOf "fits" "YesNo.fits" (ao bD) (ak bD) (aa bD) .none kV2 dc2 pm2 an2 cd2 ct2,
   f3,
   W.fnOf "answer_of" "YesNo.answer_of" (ao aP) (ak aP) (aa aP) .none kV3 dc3 pm3 an3 cd3 ct3,
   f4,
   W.fnOf "rank" "YesNo.rank" (ao bF) (ak bF) (aa bF) .none kV4 dc4 pm4 an4 cd4 ct4,
   f5,
   W.fnOf "__init__" "Row.__init__" (ao bG) (ak bG) (aa bG) .none kV5 dc5 pm5 an5 cd5 ct5,
   f6,
   W.fnOf "__init__" "Ask.__init__" (ao bH) (ak bH) (aa bH) (.ref dT6) kV6 dc6 pm6 an6 cd6 ct6,
   [.none],
   f7,
   W.fnOf "__init__" "Check.__init__" (ao aY) (ak aY) (aa aY) (.ref dT7) kV7 dc7 pm7 an7 cd7 ct7,
   [(.bool true)],
   f8,
   W.fnOf "__init__" "Sheet.__init__" (ao aZ) (ak aZ) (aa aZ) .none kV8 dc8 pm8 an8 cd8 ct8,
   f9,
   W.fnOf "__init__" "Paper.__init__" (ao bc) (ak bc) (aa bc) .none kV9 dc9 pm9 an9 cd9 ct9,
   f10,
   W.fnOf "kinds_of" "kinds_of" (ao cT) (ak cT) (aa cT) .none Yv Yw Yx XC Tg Yy,
   f11,
   W.fnOf "eaches_of" "eaches_of" (ao cD) (ak cD) (aa cD) .none Yz YB YC XD Th YD,
   f12,
   W.fnOf "all_together" "all_together" (ao bI) (ak bI) (aa bI) .none YF YG YH XF Ti YJ,
   Xz,
   W.fnOf "__init__" "Going.__init__" (ao bf) (ak bf) (aa bf) .none YK YL YM XH Tj YQ,
   UL,
   W.fnOf "note" "Going.note" (ao bJ) (ak bJ) (aa bJ) .none YS YT YW XJ Tn YX,
   UT,
   W.fnOf "own_thing" "Going.own_thing" (ao aQ) (ak aQ) (aa aQ) .none YZ Y0 Y4 XM Tp Y5,
   UW,
   W.fnOf "known_of" "Going.known_of" (ao aV) (ak aV) (aa aV) .none Y6 Y7 Y8 XN Tr Y9,
   U0,
   W.fnOf "stop_with" "Going.stop_with" (ao aR) (ak aR) (aa aR) .none Za Zb Zc XQ Tu Zd,
   U3,
   W.fnOf "take_check" "Going.take_check" (ao aH) (ak aH) (aa aH) .none Ze Zf Zg XR Tv Zh,
   U4,
   W.fnOf "go_through" "Going.go_through" (ao aJ) (ak aJ) (aa aJ) .none Zi Zj Zk XS Tw Zm,
   U5,
   W.fnOf "targets_of" "Going.targets_of" (ao aK) (ak aK) (aa aK) .none Zn Zo Zq XX Tz Zr,
   U6,
   W.fnOf "leave" "Going.leave" (ao bw) (ak bw) (aa bw) .none Zt Zu Zv X3 TF Zw,
   U7,
   W.fnOf "go" "Going.go" (ao bY) (ak bY) (aa bY) .none Zx Zy Zz X4 TJ ZC,
   U8,
   W.fnOf "__init__" "Straight.__init__" (ao aU) (ak aU) (aa aU) .none ZD ZF ZG X5 TQ ZJ,
   U9,
   W.fnOf "things_of" "Straight.things_of" (ao aG) (ak aG) (aa aG) .none ZK ZL ZM X6 TV ZP,
   Va,
   W.fnOf "put" "Straight.put" (ao bh) (ak bh) (aa bh) .none ZQ ZR ZS X7 TX ZV,
   Vb,
   W.fnOf "rank_of" "Straight.rank_of" (ao aL) (ak aL) (aa aL) .none ZW ZX ZZ X8 TY Z0,
   Vc,
   W.fnOf "is_so" "Straight.is_so" (ao aB) (ak aB) (aa aB) .none Z1 Z2 Z3 Yb Pq Z4,
   f28,
   W.fnOf "straight" "straight" (ao cU) (ak cU) (aa cU) .none Z5 Z6 Z7 Yc T4 Z8,
   f29,
   W.fnOf "compares" "compares" (ao cV) (ak cV) (aa cV) .none Z9 aaa aab Yd T5 aac,
   Vd,
   W.fnOf "__init__" "Is.__init__" (ao bK) (ak bK) (aa bK) (.ref Tf) aad aae aaf Ye T6 aag,
   [.none],
   Ve,
   W.fnOf "settled" "Is.settled" (ao bL) (ak bL) (aa bL) .none aah aai aaj Yg T7 aak,
   Vf,
   W.fnOf "holds" "Is.holds" (ao bZ) (ak bZ) (aa bZ) .none aal aam aan Yh T8 aao,
   Vg,
   W.fnOf "__init__" "Not.__init__" (ao bM) (ak bM) (aa bM) .none aap aaq aar Yi T9 aas,
   Vh,
   W.fnOf "settled" "Not.settled" (ao bx) (ak bx) (aa bx) .none aat aau aav Yj Ua aaw,
   Vi,
   W.fnOf "holds" "Not.holds" (ao bT) (ak bT) (aa bT) .none aax aay aaz Yk Ub aaA,
   f36,
   W.fnOf "_law_cell" "_law_cell" (ao cW) (ak cW) (aa cW) .none aaB aaC aaD Yl Uc aaE,
   f37,
   W.fnOf "_law_name" "_law_name" (ao cX) (ak cX) (aa cX) .none aaF aaG aaH Ym Ud aaI,
   f38,
   W.fnOf "_law_saying" "_law_saying" (ao b7) (ak b7) (aa b7) .none aaJ aaK aaL Yn Ue aaM,
   f39,
   W.fnOf "_law_spoken" "_law_spoken" (ao b8) (ak b8) (aa b8) .none aaN aaO aaP Yo Ug aaQ,
   f40,
   W.fnOf "_law_sheets" "_law_sheets" (ao cg) (ak cg) (aa cg) .none aaR aaS aaT Yp Uh aaU,
   f41,
   W.fnOf "_law_holds" "_law_holds" (ao cF) (ak cF) (aa cF) .none aaV aaW aaX Yq Ui aaY,
   f42,
   W.fnOf "_law_rows" "_law_rows" (ao cY) (ak cY) (aa cY) .none aaZ aa0 aa1 Yr Uj aa2,
   f43,
   W.fnOf "_law_going" "_law_going" (ao cG) (ak cG) (aa cG) .none aa3 aa4 aa5 Ys Uk aa6,
   f44,
   W.fnOf "_law_paper" "_law_paper" (ao cH) (ak cH) (aa cH) .none aa7 aa8 aa9 Yt Ul aba,
   f45,
   W.fnOf "law" "law" (ao qK) (ak qK) (aa qK) .none abb abd abe Yu Um abf,
   ga0,
   fV,
   cR,
   dC,
   oO,
   tG,
   jK,
   d7,
   tH,
   yg,
   dH,
   aA,
   bV⟩,⟨az (st:=bu) h01 h02 h03,
   (az (st:=bu) h01 h02 h03).binds (ps:=["self","low","high"]) (fun _ _ _ _ _ _ us hl=>Ik us hl fun _ _ _=>rfl),
   az (st:=aX) h05 h06 h07,
   (az (st:=aX) h05 h06 h07).binds (ps:=["self"]) (fun _ _ _ _ _ _ us hl=>Qv us hl fun _=>rfl),
   az (st:=bD) h09 h0a h0b,
   (az (st:=bD) h09 h0a h0b).binds (ps:=["self","thing"]) (fun _ _ _ _ _ _ us hl=>Az us hl fun _ _=>rfl),
   az (st:=aP) h0d h0e h0f,
   (az (st:=aP) h0d h0e h0f).binds (ps:=["self","text"]) (fun _ _ _ _ _ _ us hl=>Az us hl fun _ _=>rfl),
   az (st:=bF) h0h h0i h0j,
   (az (st:=bF) h0h h0i h0j).binds (ps:=["self","answer"]) (fun _ _ _ _ _ _ us hl=>Az us hl fun _ _=>rfl),
   az (st:=bG) h0l h0m h0n,
   (az (st:=bG) h0l h0m h0n).binds (ps:=["self","name"]) (fun _ _ _ _ _ _ us hl=>Az us hl fun _ _=>rfl),
   (lD (st:=bH) h0p h0q h0r h0s),
   (lD (st:=bH) h0p h0q h0r h0s).binds (es:=[]) (fun T _ _ _ _ _ _ us M A E Q s to n ht hc hd hl hq=>UJ us (uL (m:=4) hl rfl) (fun _ _ _ _ hq=>BindsTo.of_defaults rfl ht hd rfl rfl M A E Q hq) hq),
   (lD (st:=aY) h0u h0v h0w h0x),
   (lD (st:=aY) h0u h0v h0w h0x).binds (es:=[]) (fun T _ _ _ _ _ _ us M A E Q s to n ht hc hd hl hq=>UJ us (uL (m:=4) hl rfl) (fun _ _ _ _ hq=>BindsTo.of_defaults rfl ht hd rfl rfl M A E Q hq) hq),
   az (st:=aZ) h0z h10 h11,
   (az (st:=aZ) h0z h10 h11).binds (ps:=["self","name","each","rows","ways"]) (fun _ _ _ _ _ _ us hl=>el5 us hl fun _ _ _ _ _=>rfl),
   az (st:=bc) h13 h14 h15,
   (az (st:=bc) h13 h14 h15).binds (ps:=["self","name","sheets","totals"]) (fun _ _ _ _ _ _ us hl=>UJ us hl fun _ _ _ _=>rfl),
   az (st:=cT) h17 h18 h19,
   (az (st:=cT) h17 h18 h19).binds (ps:=["paper"]) (fun _ _ _ _ _ _ us hl=>Qv us hl fun _=>rfl),
   h19,
   W.mg_of X G h16,
   az (st:=cD) h1b h1c h1d,
   (az (st:=cD) h1b h1c h1d).binds (ps:=["paper"]) (fun _ _ _ _ _ _ us hl=>Qv us hl fun _=>rfl),
   h1d,
   W.mg_of X G h1a,
   az (st:=bI) h1f h1g h1h,
   (az (st:=bI) h1f h1g h1h).binds (ps:=["paper"]) (fun _ _ _ _ _ _ us hl=>Qv us hl fun _=>rfl),
   h1h,
   W.mg_of X G h1e,
   az (st:=bf) h1j h1k h1l,
   (az (st:=bf) h1j h1k h1l).binds (ps:=["self","paper","alone"]) (fun _ _ _ _ _ _ us hl=>Ik us hl fun _ _ _=>rfl),
   az (st:=bJ) h1n h1o h1p,
   (az (st:=bJ) h1n h1o h1p).binds (ps:=["self","question","thing","known"]) (fun _ _ _ _ _ _ us hl=>UJ us hl fun _ _ _ _=>rfl),
   az (st:=aQ) h1r h1s h1t,
   (az (st:=aQ) h1r h1s h1t).binds (ps:=["self","question","thing"]) (fun _ _ _ _ _ _ us hl=>Ik us hl fun _ _ _=>rfl),
   az (st:=aV) h1v h1w h1x,
   (az (st:=aV) h1v h1w h1x).binds (ps:=["self","question","thing"]) (fun _ _ _ _ _ _ us hl=>Ik us hl fun _ _ _=>rfl),
   az (st:=aR) h1z h20 h21,
   (az (st:=aR) h1z h20 h21).binds (ps:=["self","row"]) (fun _ _ _ _ _ _ us hl=>Az us hl fun _ _=>rfl),
   az (st:=aH) h23 h24 h25,
   (az (st:=aH) h23 h24 h25).binds (ps:=["self","check","thing"]) (fun _ _ _ _ _ _ us hl=>Ik us hl fun _ _ _=>rfl),
   az (st:=aJ) h27 h28 h29,
   (az (st:=aJ) h27 h28 h29).binds (ps:=["self","sheet","thing"]) (fun _ _ _ _ _ _ us hl=>Ik us hl fun _ _ _=>rfl),
   az (st:=aK) h2b h2c h2d,
   (az (st:=aK) h2b h2c h2d).binds (ps:=["self","sheet"]) (fun _ _ _ _ _ _ us hl=>Az us hl fun _ _=>rfl),
   az (st:=bw) h2f h2g h2h,
   (az (st:=bw) h2f h2g h2h).binds (ps:=["self","place"]) (fun _ _ _ _ _ _ us hl=>Az us hl fun _ _=>rfl),
   az (st:=bY) h2j h2k h2l,
   (az (st:=bY) h2j h2k h2l).binds (ps:=["self"]) (fun _ _ _ _ _ _ us hl=>Qv us hl fun _=>rfl),
   az (st:=aU) h2n h2o h2p,
   (az (st:=aU) h2n h2o h2p).binds (ps:=["self","paper","book"]) (fun _ _ _ _ _ _ us hl=>Ik us hl fun _ _ _=>rfl),
   az (st:=aG) h2r h2s h2t,
   (az (st:=aG) h2r h2s h2t).binds (ps:=["self","sheet"]) (fun _ _ _ _ _ _ us hl=>Az us hl fun _ _=>rfl),
   az (st:=bh) h2v h2w h2x,
   (az (st:=bh) h2v h2w h2x).binds (ps:=["self","question","thing"]) (fun _ _ _ _ _ _ us hl=>Ik us hl fun _ _ _=>rfl),
   az (st:=aL) h2z h30 h31,
   (az (st:=aL) h2z h30 h31).binds (ps:=["self","name","thing"]) (fun _ _ _ _ _ _ us hl=>Ik us hl fun _ _ _=>rfl),
   az (st:=aB) h33 h34 h35,
   (az (st:=aB) h33 h34 h35).binds (ps:=["self","saying","thing"]) (fun _ _ _ _ _ _ us hl=>Ik us hl fun _ _ _=>rfl),
   az (st:=cU) h37 h38 h39,
   (az (st:=cU) h37 h38 h39).binds (ps:=["paper","book"]) (fun _ _ _ _ _ _ us hl=>Az us hl fun _ _=>rfl),
   h39,
   W.mg_of X G h36,
   az (st:=cV) h3b h3c h3d,
   (az (st:=cV) h3b h3c h3d).binds (ps:=["rank","how","number"]) (fun _ _ _ _ _ _ us hl=>Ik us hl fun _ _ _=>rfl),
   h3d,
   W.mg_of X G h3a,
   (lD (st:=bK) h3f h3g h3h h3i),
   (lD (st:=bK) h3f h3g h3h h3i).binds (es:=[]) (fun T _ _ _ _ _ _ us M A E Q s to n ht hc hd hl hq=>UJ us (uL (m:=4) hl rfl) (fun _ _ _ _ hq=>BindsTo.of_defaults rfl ht hd rfl rfl M A E Q hq) hq),
   (lD (st:=bK) h3f h3g h3h h3i).binds (fun T _ _ _ _ _ _ us M A E Q s to n ht hc hd hl hq=>Ik us (uL (m:=3) hl rfl) (fun _ _ _ hq=>BindsTo.of_defaults rfl ht hd rfl rfl M A E Q hq) hq),
   .cons rfl (.nil),
   az (st:=bL) h3k h3l h3m,
   (az (st:=bL) h3k h3l h3m).binds (ps:=["self","kinds"]) (fun _ _ _ _ _ _ us hl=>Az us hl fun _ _=>rfl),
   az (st:=bZ) h3o h3p h3q,
   (az (st:=bZ) h3o h3p h3q).binds (ps:=["self","look"]) (fun _ _ _ _ _ _ us hl=>Az us hl fun _ _=>rfl),
   az (st:=bM) h3s h3t h3u,
   (az (st:=bM) h3s h3t h3u).binds (ps:=["self","test"]) (fun _ _ _ _ _ _ us hl=>Az us hl fun _ _=>rfl),
   az (st:=bx) h3w h3x h3y,
   (az (st:=bx) h3w h3x h3y).binds (ps:=["self","kinds"]) (fun _ _ _ _ _ _ us hl=>Az us hl fun _ _=>rfl),
   az (st:=bT) h40 h41 h42,
   (az (st:=bT) h40 h41 h42).binds (ps:=["self","look"]) (fun _ _ _ _ _ _ us hl=>Az us hl fun _ _=>rfl),
   az (st:=cW) h44 h45 h46,
   (az (st:=cW) h44 h45 h46).binds (ps:=["_law_script","_law_k"]) (fun _ _ _ _ _ _ us hl=>Az us hl fun _ _=>rfl),
   h46,
   W.mg_of X G h43,
   az (st:=cX) h48 h49 h4a,
   (az (st:=cX) h48 h49 h4a).binds (ps:=["_law_script","_law_k"]) (fun _ _ _ _ _ _ us hl=>Az us hl fun _ _=>rfl),
   h4a,
   W.mg_of X G h47,
   az (st:=b7) h4c h4d h4e,
   (az (st:=b7) h4c h4d h4e).binds (ps:=["_law_cell_here","_law_asked"]) (fun _ _ _ _ _ _ us hl=>Az us hl fun _ _=>rfl),
   h4e,
   W.mg_of X G h4b,
   az (st:=b8) h4g h4h h4i,
   (az (st:=b8) h4g h4h h4i).binds (ps:=["_law_saying_here"]) (fun _ _ _ _ _ _ us hl=>Qv us hl fun _=>rfl),
   h4i,
   W.mg_of X G h4f,
   az (st:=cg) h4k h4l h4m,
   (az (st:=cg) h4k h4l h4m).binds (ps:=["_law_script"]) (fun _ _ _ _ _ _ us hl=>Qv us hl fun _=>rfl),
   h4m,
   W.mg_of X G h4j,
   az (st:=cF) h4o h4p h4q,
   (az (st:=cF) h4o h4p h4q).binds (ps:=["_law_saying_here","_law_book","_law_asked"]) (fun _ _ _ _ _ _ us hl=>Ik us hl fun _ _ _=>rfl),
   h4q,
   W.mg_of X G h4n,
   az (st:=cY) h4s h4t h4u,
   (az (st:=cY) h4s h4t h4u).binds (ps:=["_law_rows_here","_law_book","_law_asked","_law_log"]) (fun _ _ _ _ _ _ us hl=>UJ us hl fun _ _ _ _=>rfl),
   h4u,
   W.mg_of X G h4r,
   az (st:=cG) h4w h4x h4y,
   (az (st:=cG) h4w h4x h4y).binds (ps:=["_law_sheets_here","_law_book"]) (fun _ _ _ _ _ _ us hl=>Az us hl fun _ _=>rfl),
   h4y,
   W.mg_of X G h4v,
   az (st:=cH) h50 h51 h52,
   (az (st:=cH) h50 h51 h52).binds (ps:=["_law_sheets_here"]) (fun _ _ _ _ _ _ us hl=>Qv us hl fun _=>rfl),
   h52,
   W.mg_of X G h4z,
   az (st:=qK) h54 h55 h56,
   W.mg_of X G h53,
   W.mg_of X G h57,
   Nk h58 h59 h5a h5b h5c h5d,
   W.mg_none_of X G h5e,
   W.mg_none_of X G h5f,
   W.mg_none_of X G h5g,
   W.mg_none_of X G h5h,
   W.mg_none_of X G h5i,
   W.mg_none_of X G h5j,
   W.mg_none_of X G h5k,
   W.mg_none_of X G h5l,
   L2.yz (by symm),
   L2.yz (by symm),
   L2.yz (by symm),
   L2.yz (by symm),
   W.mg_of X G h5m,
   ⟨_,W.mg_of X G h5m,rfl⟩,
   W.mg_of X G h5n,
   W.mg_of X G h5o,
   W.mg_of X G h5p,
   W.mg_of X G h5q,
   W.mg_of X G h5r,
   W.mg_of X G h5s,
   ⟨_,W.mg_of X G h5t,rfl⟩,
   W.mg_of X G h5u,
   W.mg_of X G h5v,
   W.mg_of X G h5w,
   W.mg_of X G h5x,
   ⟨_,W.mg_of X G h5x,rfl⟩,
   Bx,
   Gr h5y h5z h62 h63,
   Bx,
   Gr h60 h61 h64 h65,
   ⟨h66,h67,h68,h69⟩,
   fun _ _ _ _ e=>.ins e ⟨h66,h67,h68,h69⟩ h6a h6b h6c h6d,
   ⟨h6e,h6f,h6g,h6h⟩,
   ⟨h6i,h6j,h0b⟩,
   ⟨h6k,h6l,h0f⟩,
   ⟨h6m,h6n,h0j⟩,
   h6o,
   h6p,
   ⟨h6q,h6r,h6s,h6t⟩,
   fun _ _ _ _ e=>.ins e ⟨h6q,h6r,h6s,h6t⟩ h6u h6v h6w h6x,
   ⟨h6y,h6z,h70,h71⟩,
   h72,
   h73,
   h74,
   ⟨h75,h76,h77,h78⟩,
   fun _ _ _ _ e=>.ins e ⟨h75,h76,h77,h78⟩ h79 h7a h7b h7c,
   ⟨h7d,h7e,h7f,h7g⟩,
   h7h,
   h7i,
   h7j,
   ⟨h7k,h7l,h7m,h7n⟩,
   ⟨h7o,h7p,h7q,h7r⟩,
   h7s,
   h7t,
   h7u,
   h7v,
   ⟨h7w,h7x,h7y,h7z⟩,
   ⟨h80,h81,h82,h83⟩,
   h84,
   h85,
   h86,
   ⟨h87,h88,h89,h8a⟩,
   ⟨h8b,h8c,h8d,h8e⟩,
   ⟨h8f,h8g,h2t⟩,
   ⟨h8h,h8i,h2x⟩,
   ⟨h8j,h8k,h35⟩,
   ⟨h8l,h8m,h1p⟩,
   ⟨h8n,h8o,h21⟩,
   ⟨h8p,h8q,h25⟩,
   ⟨h8r,h8s,h29⟩,
   ⟨h8t,h8u,h2d⟩,
   ⟨h8v,h8w,h2h⟩,
   ⟨h8x,h8y,h2l⟩,
   ⟨h8z,h90,h1t⟩,
   ⟨h91,h92,h1x⟩,
   ⟨h93,h94,h31⟩,
   h95,
   h96,
   h97,
   h98,
   h99,
   h9a,
   h9b,
   h9c,
   h9d,
   h9e,
   ⟨h9f,h9g,h9h,h9i⟩,
   ⟨h9j,h9k,h9l,h9m⟩,
   ⟨h9n,h9o,h3m⟩,
   ⟨h9p,h9q,h3q⟩,
   h9r,
   h9s,
   h9t,
   ⟨h9u,h9v,h9w,h9x⟩,
   ⟨h9y,h9z,ha0,ha1⟩,
   ⟨ha2,ha3,h3y⟩,
   ⟨ha4,ha5,h42⟩,
   ha6,
   ⟨ha7,ha8,ha9,h1l⟩,
   ⟨haa,hab,hac,h03⟩,
   ⟨had,hae,haf,h0n⟩⟩,mc,mP,mk1,mk4,mk5,mk6⟩
theorem walk {l:W.OpenLaw}{q:Program}{loose:List Str}{XP:(Str→Option Value)→Heap→Prop}{YP:World→Heap→Prop}{d:DefRec}{K:Params→W.Frag} (hn:l.most=some 63) (hdf:d.params.defaults=[]) (hnm:d.name="law")
   (hY:∀ (w:World) (h:Heap),YP w h→(K w.params).In h)
   (F:∀ (w:World) (mg:Str→Option Value) (h:Heap),YP w h→(K w.params).In h→h.Ns mainGlobals mg→∃ A:cJ,Txt (K w.params) mg A∧∃ c P,A.aF.code=.ref c∧W.codeHdIn (K w.params) c P=true∧(K w.params).lookup P=none∧h.get? P=some (W.tabObj #[])) :
   W.WalkO q loose XP YP l.row.toRowW d [] (fun f vs=>PySem.call f vs):=by
 refine L2.Kd (ps:=di DL.qual Lj) ⟨_,_,_,rfl⟩ (n:=63) (k:=40) (x:="_law_script") (CX:=fun _=>bW) (sp:=fun Pt w=>Mh (K w.params) Pt) hn (by decide) hdf ⟨rfl,by decide,by decide⟩ hY (fun w mg fa h Y KX G hmg=>?_) (fun Pt w H a ns hl hb hO hS=>⟨a,ns,rfl,hS,hl,hb,hO.1,fun _=>rfl⟩) fun _ _ _ _ _ z=>z
 obtain⟨A,T,c,Pt,m1,m2,m3,m4⟩:=F w mg h Y KX G
 rw [hnm] at hmg
 have e:=hmg.symm.trans T.Wl
 cases e
 obtain⟨oc,od,kV,doc,pm,an,cdv,ct,osl,efd,lk,hcd⟩:=id T.Qf.ex
 exact⟨c,Pt,A.KD,m2,m4,m3,fun s v=>by rw [efd];exact .of_eq rfl,fun base _ _ B=>S8 T B m1 m2⟩
end jm
open PySem PySem.W PyProof.Rows
set_option maxRecDepth 100000 in
set_option maxHeartbeats 0 in
theorem PySem.Challenge.cw_askpaper_k37_sayings_checks_and_ways_holds : PySem.Challenge.rw_askpaper_k37_sayings_checks_and_ways.Holds := by
 refine PySem.Challenge.hd37 ?_
 k_fill
 refine jm.walk (l := PySem.Challenge.rw_askpaper_k37_sayings_checks_and_ways) rfl rfl rfl (fun w h Y => W.km_in_of Y) ?F
 case F =>
   intro w mg h Y KX G
   have T : ∃ A : jm.cJ, jm.Txt (L2.KOf KX) mg A ∧ ∃ c P, A.aF.code = .ref c ∧ W.codeHdIn (L2.KOf KX) c P = true ∧ (L2.KOf KX).lookup P = none ∧ h.get? P = some (W.tabObj #[]) := by
     dsimp only [L2.KOf]
     refine' jm.Te KX G ?h5m ?h5n ?h5o ?h5p ?h5q ?h5r ?h5s ?h5t ?h5u ?h5v ?h5w ?h5x ?h00 ?h01 ?h02 ?h03 ?h04 ?h05 ?h06 ?h07 ?h08 ?h09 ?h0a ?h0b ?h0c ?h0d ?h0e ?h0f ?h0g ?h0h ?h0i ?h0j ?h0k ?h0l ?h0m ?h0n ?h0o ?h0p ?h0q ?h0r ?h0s ?h0t ?h0u ?h0v ?h0w ?h0x ?h0y ?h0z ?h10 ?h11 ?h12 ?h13 ?h14 ?h15 ?h16 ?h17 ?h18 ?h19 ?h1a ?h1b ?h1c ?h1d ?h1e ?h1f ?h1g ?h1h ?h1i ?h1j ?h1k ?h1l ?h1m ?h1n ?h1o ?h1p ?h1q ?h1r ?h1s ?h1t ?h1u ?h1v ?h1w ?h1x ?h1y ?h1z ?h20 ?h21 ?h22 ?h23 ?h24 ?h25 ?h26 ?h27 ?h28 ?h29 ?h2a ?h2b ?h2c ?h2d ?h2e ?h2f ?h2g ?h2h ?h2i ?h2j ?h2k ?h2l ?h2m ?h2n ?h2o ?h2p ?h2q ?h2r ?h2s ?h2t ?h2u ?h2v ?h2w ?h2x ?h2y ?h2z ?h30 ?h31 ?h32 ?h33 ?h34 ?h35 ?h36 ?h37 ?h38 ?h39 ?h3a ?h3b ?h3c ?h3d ?h3e ?h3f ?h3g ?h3h ?h3i ?h3j ?h3k ?h3l ?h3m ?h3n ?h3o ?h3p ?h3q ?h3r ?h3s ?h3t ?h3u ?h3v ?h3w ?h3x ?h3y ?h3z ?h40 ?h41 ?h42 ?h43 ?h44 ?h45 ?h46 ?h47 ?h48 ?h49 ?h4a ?h4b ?h4c ?h4d ?h4e ?h4f ?h4g ?h4h ?h4i ?h4j ?h4k ?h4l ?h4m ?h4n ?h4o ?h4p ?h4q ?h4r ?h4s ?h4t ?h4u ?h4v ?h4w ?h4x ?h4y ?h4z ?h50 ?h51 ?h52 ?h53 ?h54 ?h55 ?h56 ?h57 ?h58 ?h59 ?h5a ?h5b ?h5c ?h5d ?h5e ?h5f ?h5g ?h5h ?h5i ?h5j ?h5k ?h5l ?h5y ?h5z ?h60 ?h61 ?h62 ?h63 ?h64 ?h65 ?h66 ?h67 ?h68 ?h69 ?h6a ?h6b ?h6c ?h6d ?h6e ?h6f ?h6g ?h6h ?h6i ?h6j ?h6k ?h6l ?h6m ?h6n ?h6o ?h6p ?h6q ?h6r ?h6s ?h6t ?h6u ?h6v ?h6w ?h6x ?h6y ?h6z ?h70 ?h71 ?h72 ?h73 ?h74 ?h75 ?h76 ?h77 ?h78 ?h79 ?h7a ?h7b ?h7c ?h7d ?h7e ?h7f ?h7g ?h7h ?h7i ?h7j ?h7k ?h7l ?h7m ?h7n ?h7o ?h7p ?h7q ?h7r ?h7s ?h7t ?h7u ?h7v ?h7w ?h7x ?h7y ?h7z ?h80 ?h81 ?h82 ?h83 ?h84 ?h85 ?h86 ?h87 ?h88 ?h89 ?h8a ?h8b ?h8c ?h8d ?h8e ?h8f ?h8g ?h8h ?h8i ?h8j ?h8k ?h8l ?h8m ?h8n ?h8o ?h8p ?h8q ?h8r ?h8s ?h8t ?h8u ?h8v ?h8w ?h8x ?h8y ?h8z ?h90 ?h91 ?h92 ?h93 ?h94 ?h95 ?h96 ?h97 ?h98 ?h99 ?h9a ?h9b ?h9c ?h9d ?h9e ?h9f ?h9g ?h9h ?h9i ?h9j ?h9k ?h9l ?h9m ?h9n ?h9o ?h9p ?h9q ?h9r ?h9s ?h9t ?h9u ?h9v ?h9w ?h9x ?h9y ?h9z ?ha0 ?ha1 ?ha2 ?ha3 ?ha4 ?ha5 ?ha6 ?ha7 ?ha8 ?ha9 ?haa ?hab ?hac ?had ?hae ?haf ?mk1 ?mk2 ?mk3 ?mk4 ?mk5 ?mk6
     (case h5m|h5n|h5o|h5p|h5q|h5r|h5s|h5t|h5u|h5v|h5w|h5x|h00|h01|h02|h03|h04|h05|h06|h07|h08|h09|h0a|h0b|h0c|h0d|h0e|h0f|h0g|h0h|h0i|h0j|h0k|h0l|h0m|h0n|h0o|h0p|h0q|h0r|h0s|h0t|h0u|h0v|h0w|h0x|h0y|h0z|h10|h11|h12|h13|h14|h15|h16|h17|h18|h19|h1a|h1b|h1c|h1d|h1e|h1f|h1g|h1h|h1i|h1j|h1k|h1l|h1m|h1n|h1o|h1p|h1q|h1r|h1s|h1t|h1u|h1v|h1w|h1x|h1y|h1z|h20|h21|h22|h23|h24|h25|h26|h27|h28|h29|h2a|h2b|h2c|h2d|h2e|h2f|h2g|h2h|h2i|h2j|h2k|h2l|h2m|h2n|h2o|h2p|h2q|h2r|h2s|h2t|h2u|h2v|h2w|h2x|h2y|h2z|h30|h31|h32|h33|h34|h35|h36|h37|h38|h39|h3a|h3b|h3c|h3d|h3e|h3f|h3g|h3h|h3i|h3j|h3k|h3l|h3m|h3n|h3o|h3p|h3q|h3r|h3s|h3t|h3u|h3v|h3w|h3x|h3y|h3z|h40|h41|h42|h43|h44|h45|h46|h47|h48|h49|h4a|h4b|h4c|h4d|h4e|h4f|h4g|h4h|h4i|h4j|h4k|h4l|h4m|h4n|h4o|h4p|h4q|h4r|h4s|h4t|h4u|h4v|h4w|h4x|h4y|h4z|h50|h51|h52|h53|h54|h55|h56|h57|h58 => k_is)
     (case h59 => rfl)
     (case h5a => rfl)
     (case h5b => rfl)
     (case h5c => rfl)
     (case h5d => exact .cons rfl rfl (.cons rfl rfl (.nil)))
     (case h5e|h5f|h5g|h5h|h5i|h5j|h5k|h5l|h5y|h5z|h60|h61|h62 => k_is)
     (case h63 => rfl)
     (case h64 => k_is)
     (case h65 => rfl)
     (case h66|h67|h68|h69|h6a|h6b|h6c|h6d|h6e|h6f|h6g|h6h|h6i|h6j|h6k|h6l|h6m|h6n|h6o|h6p|h6q|h6r|h6s|h6t|h6u|h6v|h6w|h6x|h6y|h6z|h70|h71|h72|h73|h74|h75|h76|h77|h78|h79|h7a|h7b|h7c|h7d|h7e|h7f|h7g|h7h|h7i|h7j|h7k|h7l|h7m|h7n|h7o|h7p|h7q|h7r|h7s|h7t|h7u|h7v|h7w|h7x|h7y|h7z|h80|h81|h82|h83|h84|h85|h86|h87|h88|h89|h8a|h8b|h8c|h8d|h8e|h8f|h8g|h8h|h8i|h8j|h8k|h8l|h8m|h8n|h8o|h8p|h8q|h8r|h8s|h8t|h8u|h8v|h8w|h8x|h8y|h8z|h90|h91|h92|h93|h94|h95|h96|h97|h98|h99|h9a|h9b|h9c|h9d|h9e|h9f|h9g|h9h|h9i|h9j|h9k|h9l|h9m|h9n|h9o|h9p|h9q|h9r|h9s|h9t|h9u|h9v|h9w|h9x|h9y|h9z|ha0|ha1|ha2|ha3|ha4|ha5|ha6|ha7|ha8|ha9|haa|hab|hac|had|hae|haf => k_is)
     (case mk1 => rfl)
     (case mk2 => k_is)
     (case mk3 => rfl)
     (case mk4 => kernel_rfl)
     (case mk5 => kernel_rfl)
     (case mk6 => exact W.km_tabs_of Y _ (by repeat (first | exact .head _ | apply List.Mem.tail)))
   exact T
