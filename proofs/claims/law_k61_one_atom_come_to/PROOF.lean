import PyProof.Rows.All
import OpenK.KLine
import OpenK.KWalk
import OpenK.KRaise
import Open.Line
import Wide.Line
import KE.IntBitsLaws
import KE.KIsAll
import KE.KTryMore
import KE.KNest
import KE.KNestM
import KE.KLam
import Wide.FinOn
import Lean
import PyProof.EqAt
import PyProof.EqKinds
import PyProof.TupleCall
import PyProof.ZipIter
import PyProof.Rows.ZipGen
import PyProof.EnumMake
import PyProof.EnumFor
import PyProof.EnumStmt
import KE.KDictOf
import PyProof.AttrMissHeap
import PyProof.NeKinds
import KE.KItem
import KE.KDictSum
import KE.KSortTup
import KE.KEqDict
import KE.KRevSl
import KE.KTabExpr
import KE.KPairComp
import PyProof.DictItems
import KE.KDictList
import PyProof.ListRange
import KE.KRevIter
import PyProof.Rows.TupDisplay
import PyProof.TupleKey
import PySem.Challenge.RW_askpaper_k61_one_atom_come_to
local macro_rules
 | `(‹$x:str›) => `((PySem.Str.ofString $x))
 | `(‹$x:ident›) => `((($x).mono (by first | decide | omega)))
 | `(‹0›) => `((by first | exact Or.inl rfl | exact Or.inr rfl))
local macro_rules | `(tactic| symm) => `(tactic| decide +kernel)
set_option Elab.async false
set_option linter.all false
set_option maxRecDepth 100000
open Lean in
local macro_rules
 | `(command| #print $s:str) => do
  let r := s.getString.toList.foldl (fun (r : Nat × Nat × Array Nat) c =>
   let n := r.2.1 * 62 + (if c.isDigit then c.toNat - 48 else if c.isUpper then c.toNat - 55 else c.toNat - 61)
   if r.1 == 10 then (0, 0, r.2.2.push n) else (r.1 + 1, n, r.2.2)) (0, 0, #[])
  return mkNullNode (← r.2.2.mapM fun n => do `(command| def $(mkIdent (.mkSimple s!"tw{n}")) := Nat))
namespace PySem.W.Fast
#print "Bv45BdmwiTvBv4Bz1RuQsZBvx7mFS66dHBxwDpyyk2iTByoav523dMFC14d0EVm5RfC1TtGNdPD6sC1UccB9EEJLC2AMehupFctC2otKaehP8SC4OifO0zCc5C5Py7pT8Lj0C5YlznRaiCgC7kgeH9Y5ENCB1Nr5IEn2eCB5gE4bVGQUCCj8ibJooZGCEXFfIscJBUCEigt4GluLMCF7n1XvlbDzCFZZF91nrMLCGGnKpTh8bT1E9vO6l2dcyCMFO50RkmbPCMVJsMiDgYz1EnP6gnRMqrCOjXzOWjymi1EtIww1Lc4VCPgFDd29cskCQFQqiTlXWJCQfR6rq581rCQoWn0FkScKCRD0kMqsr2vCT4LT60XaSwCTM4pzm3grLCTa9yeiv0XX1FOoz7fkZB11FPSPRjWolHCUHDJaWPhdjCV2hRYl5HmKCYGTGnMHkdlCYr5oJ0IJR2CZBY7IR8la2CZOYeuVRL9nCZfE53gfZgECbB4gP7ZNQYCbi451PfHErCc9fMuthjRWCcCEAOb1OHBCdNtgB0K9kT1GQnAKHWrnM1GSHHXY1nbxCfWatqzG25JCfsiCoXa9LQChOLBMfw49KCj6G7IFVlvyCjQRjNGvyIeCjzarvu4vZmCkoQx1Gx4voClC2fdOOZ5BClX0v7CAb4CCmBXYVJUogICmEdThKUlB6CmFnAJVKTxdCmK2IIU61vzCo4ufbLtHklCq64kjD2aqpCqn4v1s62T3CqwbFGeowUnCrvUhRGVq0BCwxBBxgHC0E1IdcbS8hzqhD0UtNJef2KpD1NCI6TNgH4D3rdhTc3876D4AtETSkFYrD7NzzZiEFDnD9d6WzOL86gDAFEQZnfQKkDCgwnzLn3ZEDD5b83rmRn6DEViRz2FMeZDEwoPYdEOIsDF4TiJWL5cgDFYPALpGTHjDGAl9981narDGUKz2xveNyDIzvU10psr2DLIWeDjogRi1KkvPi3AiQjDN44evGptqPDQ4aLwXqlQ0DQ4cfE4lhrvDQ4z5fv7GeoDRRwnX3o0mU08L0r3BtXPLDS10qxuPw3bDS3TPHYb6EBDTIRTnpJcpsDTqrv4hRfaHDVL2xRprj9PDVcvwzvCu1rDVr2xAwy7GFDW8m5dqNqfKDWvmtgXaPCTDYUDSaHsVnRDZHFYCOYe8jDbt11SYQWsYDciuIT5oHQf1MYJeEosRRuDdqWQ6mAhYkDfQtZ2l2tt7DhofkszmL6xDjpJfdC7oXQDluHZYwn6szDoPUaVrzGQCDpZsgXq1Ti1DpkcH9Oo9ATDrxGXmlNGMbDtm6SJatMjLDu8MP3DkIyxDuMqaHJy51YDuTgnlJIFQODvm2UBKXOYLDwtDVd88OcbDz48wBY2OagE0Fo9ySBLnzE2G2sfG6HEtE3JNQuMbjOXE4ISpNcN5sSE5O2wApbiijE5kn1SKm4mSE6gluJJbYx7E7ppSVChQAc1PbQinmOm05E85evTMimkBE887on6uLAXE9xLUqjE0xvEAAq4bcKfVeECnah99qmc8EILukXQ3BMTEIrTrouYrZqEJzw3Mz1NrlEMbfgbw3zmI1RAWM9wR2iREOrjWjQKCvsEPZVYfnxzfBEPes9JcbeWPEQjJsEaJz85ERAjXWBNqsYETDxwi9OixxEUbyKuESoXTEYZLWPt0uBhEaei6ogPBKzEbZ7r9lqWfrEbvbtwZcp0TEchBIIWRYEYEdp4T6TwMdS1T374xiY4tqEhL76gNWokqEiNxpHepfoGEjEVAnxxwJ3EjTFm3XcKfUEkmjVTPi3DiEl1WRitaGdoEmGsJ5zx2RsEoaCkbOiTNBEog1pMO0MHTEqf8slClnTaErncpY1XD2yEsXDeq171z4EuLU9JOvCVwEvU7sYdEwYZExrXSltV2irEyVNVY5S0miEzkWXkShMgHF0A5NXGHlGNF2jPSCy78cKF5jiHZRkx8FF73GJI3lDazF7BJLrCMDFF1VlnwYkCMt0FBiLmpVsv9uFBmFsstTtnHFDA48ELIlCqFDOfu1tzfrNFFw3Nb1BVe2FGJeIM4JHOxFGNHA3Sy8cCFJFZnehs7nCFJnB3qlvVQRFKC7sXj6APmFKwh7JxUvPl1X7QYfId0Pq1X8ncwPXUbiFN7cdwYFPs8FNHJcyBeKIuFNixgZjGGsjFOuVDM9CA3DFQmzGmJUBktFRJ4dG32yZNFTTfOaghtypFY6ZFNBymGTFaPSrD9hY5XFbRaabEF4zOFcaDpcPuo71FcndwwjGoM1FeGSU1YNUwbFee7eqnjcXEFeiFDbiXLrcFfjYD6XFI5zFhGfrBo1h7KFhWa89gxxPHFhrbEfFFOK7FiflGTBPtclFitgKFnDfirFkfNxfZq7QXFo1CozRYXcAFo7xlNRbx1C1a2PNbTwCmFFoWUGA7DSycFpFAOeERhHvFtzYzn1ILXCFuUIqwGpYkTFuk6gKMs8l4Fuo5oNYLkOWFvJc6pmMo81FxhTHrZmBmVFy2mxEG6EL3Fy32hrXUoIhFziaZCRT8sRG0BR7aVFRUpG0K18exw72ZG0QF53oGB9O09vVP1tFc8qG0uzBXMETr4G0xjMDiGm4gG1FRcT8jh05G1fgTeBAd3lG32FfRy8Y2cG3jJUrr4qTAG3ycGF01d2iG5WMagdQ6P2G7BMRFCvVWlG7IT06CZqEFG7xgd6AVTLAG8oi2Fbg4GsGAGMMYOE958GBPx6grlv8HGC3TgnDM188GDKS68RPGfUGEbO6Nm7wOdGGTen3JDtRgGGVUfUyQeiT1cwITdqD42CGHirobjigi1GHvjNPCdWMTGIU2EIuWe63GIixwReTL88GJ0tsoOXDLK1dD87Sy0uvlGKkRT9pcKIV1dLpHqVyY0e1dM03FCNBGHGM9wZf8mUjHGOCS54fIoReGRIP1hv8lt5GS77DsGqrfJGTP5I5Y6T8Q1eBK1ore41c1eR3Pvodo5yGWdp3mKbHj8GX0e3mcex7jGXiUghn6E8HGZJeCl1hFjO0AISjcI05AcGcLzySjU7JyGcq5ZyYjIZpGepmYCwcuBxGhVmwTFMHuh1fhTaeCSO11GjlXBgbq2lZGjscbMDQzUCGkoI0R10jAHGl8EO0rrxwI1g9PX80yH38GpYtUywU4pEGqOmiaHfwFy1gSCMsZ2YFPGs2slgTH1IT1gg1GwhQQgbGuqXr5itfM8GxLLraVeINbGxNrJghYl3VGxvKbIuyWhL1hDBoCqhZjkH17ezn14l4MH2pWgZsvglIH38gDTWhMGeH76pU00EQYjH8K2CythwFFH9KYNDGfwMl1iL0z5ZDi5OH9tZP0kZCViHAoPF3zKJ1LHCwOzH3qjZFHDXvDUyzzcX1ikosS0lNY7HEBS5OofUyb1ip8hwGRotfHEN5eP4DR621jE0xUvxZnBHILNcxbRKwoHJlFdzcGTP5HK7u6RdBMbZHKXK2WONzWq0AkR6L8IgR4HMqn1iI6DSX1jjLQw3Vw5fHNUkInWoRmMHOVU9QUe9qe1k4OOCYtQyBHS5wmF7eSbTHSe27BpwoIBHU9iM1ep3QwHUars4ztj1pHUtb0kHwBBoHV4sga5Jb7xHWH8Z8q2DdXHYChqFlGfELHYD10BKaWge1l67zaPZo8jHctnOHw9Kau1lJmQREQzOPHeGtuzTVquv1lQgYUPm2gFHeNSo18jzY8Hf2OSC1azk7HfIdTN1N7GjHfLtK99eBcXHiGlLRICtt6Hp4devAZNFaHqOXdYf8AMdHqwWZ0c46sYHsgeAU6D8V3Hu3L1bh7u07HvBaFaBg4Z4HwZ1KME1UagHwoX7XmURY4Hxm99207OFg1nXBB8ZzS2tHzSEXc1Ubu4I04Juc0seaw1neHVFMPC3kI3RkD4EsPYCI3awYaiKCC9I4ENDvhyNVEI4SkAahaVxbI5B8qsENqQJI6ZwLarnD37I6fN8U35d9OI7I0RR4nSKVI7acuX6kfMC1oRN3P6ubfhI8TyjNBDrUFI9c8LdgPMkrID38zm2BYCzIDcowBGrCmSIDefWKqQcPfIELhPez4dJCIEtAe6URYVTIFWhSv2mGZnIGNghpWiTD7II3LSHyhWOuIJ04UnzoxRXIJWCz2pzn0rIMkdcrRxvEe1pxDgLx8Q9iIOpA03iqMUDIOtrkyN7N1p1qDaVWZUUrEISUjp0Io8Q3ITUgWJe42hWIU0Xd5k8pkoIUNqAKhE4UTIW2X6IuVVenIYAz6C5aSlaIZDLaMzp2OaIZwtIYbWoOpIaEdUhyVXBHIb6TyZ1OoMmIcFLSgphRguIdcaVFLGkeX1rZnUWlcuzrIeu6hD0LnLbIfAEZsI28nOIhBD0wsTUC4IhCTmbK2Db90BbD8QFF0YiIjTsEPECBRqIkecm7X5Wl7IlMrSLCVRAVIoL1f0cUhLUIoauB1XIHjeIozAZDxDKzqIqWCiqLuCf6IqhHeUTyRnEIsKjXJ03iiSIsVwORYglgdItE8J6Q0qSvItuxecaV5sWIudwk653GB9Iuz3HZavGWe1tKOhlWxWGoIwmj4Z0bQgyIxf6SCZ6IYvIxzd6DPTTcAIz5l2IA3oFQIzKT3NTZtXSJ0uLLRpTrtFJ1usQKwtj8y1uDA5LvKsfpJ4Z2AZMn7ntJ4nwbpLZgwTJ5a53GP4BNpJ6O0muT2lYTJ6xWgpULJdm1uiFwI3g0myJCILy2kBMvLJCfqJTYLCIeJD6l0EvOxJqJE8N4LspTdSJGENXgXNXaKJKQVX64606XJOZBfD6TzWDJPFxtAwhRrUJQ4JLSiYiDbJQ67UxnN012JSAdyfwvB5tJSArGPnLDfTJVL7RnQgl3oJYSzkXPQpEgJYceduckxtBJYomrk0PrL51xJ9UgQz8GsJb4gDNQs83S1xaXmAdjCJ9JhBJmcly4PEJhFBsGTnofZ1yTRqV94kv6JksCQDQciDKJmIfjLXI5SNJnQ2wojyd2BJnzUvzlK47UJoGcrcpoplnJpmF0vca3tz1zFoPjxhOTEJsgcyhvhlYXJsihKR8jogQJvwFDCM7ctPJyMhMlrzwiPK0BafGVAnLkK2I75nF1w5sK352SMIZmtUK4Oip6APRaJK7YJVSJEcCzK83tXp7xDmZK8lfbG3KgTPK9mU5S3sdFuK9yUdEbFtXzKBchcpr5B3sKBkMQfvfqrwKBm1dnVTzobKC3qdRjvY9yKCreavk3o3YKF1QmB2uTWJKFzTqX5XrVeKGf1emVVh9tKHWyZPXQ7YLKIdmwVXugw3KJKnca5iMlvKL3ls0l7m6QKL6so360tTYKLAnzPgbvmUKLD8yCYsvDa228P3l18xytKLVyVIJMCUDKMjAcdV0B9CKNJ9CdsbbwXKS07SH1WBxeKS9oWcncMLCKSdwfcwrS2pKTja1PsVa0aKUh3ui1CtXsKUp91ZQMnkD23H8QuasNaDKXkn1s4oapPKY9Dot1vpjlKYQV2LdtAfsKbLOtiS5fPlKdVReJ6Kej80CnzVPeq6DsKemVersXnO5KhWabeuEqs1KiJwc6z8nLg24RuXDAdXWwKiYXVB8pszcKiZgozhBntIKie7KFgv0VaKj8w06sgV8lKkemVFALQNG24fqr5ShUCWKlVzRxSwyXhKlX6fyqDQz5Klj054zYc7VKm7Z133W6JGKmV0SAtsh2nKmfB9IOH4agKpMixZA18VeKpcjRRLfA3RKqFmmKl1eM40CvKGDwghVfKqykX70m4P9Kt0RjQj2yWiKtGhICgDixyKvQkHzkzMnoKvm15lmhjj6KwyxmuKd4EKKxiJArT8qJk0CzxjoM2VgyKy0q5YfhrTPKyPRZlpse2w2681qDOoGe1KzKVU1ZlaMNKzOoMDTeTpmL0IKjgAGMewL3URgJqcGw4L4O7j43A8vNL50uV0MCOtqL5ECY1XSEATL5p8nBMD2eWL7Ld2hXatLSL7apKmREhlcL8KCPrUqyIr279qAPfwFsbLA4WgC5IA5qLCFsqeE5hTgLCfoGWDsVEyLDJqb6VV9IzLDuXGIfkdWULEncFC99IMwLF7hlL8sU4wLFuc9Wruo2MLGG7ZAVVmX5LHAGisMD5viLISSygjfivJLIVDqUcRsE2LKVe2qWjJddLLtU1T7WtMTLMZuij863AMLNVpB46dDukLPHw6U5bEAgLRSPOafFzWBLRc7baCkkeuLRegWvHMsLQLRmww97HxYULRwXK3dm943LS73b9VU1F3LSKlrucla5cLTNznDe7XDJLTzyKnRwqM4LVGxoPcezzgLVtV64uCGuPLVz2S4PcDCiLWAOx1wXmzoLWpSz9avzs1LYS8ioe6doK29lkdctdaczLbSfA9ieMZbLde536j6ZxxLe5yuqrpacZLeH4GqgypmELehwT71MR2i2ALPx2UXsRbLhyUikQMyM5Ljr0rkxVrQKLkufonvg9YgLmmdNN6Lgn1Ln34vtha6eDLnnozt31JnvLo1fQgemaz82BN5yGeJonHLqZx1Gpd8OMLsrMew7kg7wLu248GdAiYLLv4X0oWh8FOLvjsSjkrEWJLwwmwAS2HYK2CByML8M5mf2CEcTp1MzAi2ExR5qbjnvl2G6fS4JYjTU2JLL9OQBFYD2K5me6DBLlc2KYucmizkzZ2M0ePvU5ki12NmBIyF96CA2QfRflGm1152SrrSW5aYKc2Sv705Jmo9s2Tq75c2f88H2UwK9fHMCyG2YSHfZMWrcW2YbblIhWFcD2Z08C0Uv0cr2Z5a9IiYCIs2Z85vXb08bj2ZudcDwubO62a54DKZjVXB2cU33HID2b62cuqFeLlGWP2fDABSdgy3R2fuugHOWqAe2g9DSTvp3Aw0GcY16dbrFv2igNXZoGOw52ij1rrUrHrD2jC5e9VrfF12kR90SPSvlk2krWGX7V2Pu2lhRe5BpoOq2mSR0cLWumx2nHBqK7OJy92o1uqdUGyj52p80bJbY1Uu2qNgSFgcmVY2qNmnsMKPcn2qr7m5qckl52s9Bootu0DC2siAJWDBwRh2sk6xxHwKns2tUPcS3RPF62u1d7mmkCBJ2vnyL2YpGFJ2xUckgchHdV2y17FuUwGRW2zKhdY8Bt4C2zjxTXiAZAH2zkGfYCdV7s30xRepZrdlo31LzyE068VT33GHPQVIYin3572jGY7V2g361wGiEM0Os37uGt85ZVbS38c74eXGToJ38zPO2Yh4Pz39o13ghFuRi3ADFcR7EhLT3C6LStnFcBp3CIv5bL7geN3ClRDwHwrqF3Cm9B16ic613CtmObYfrI63ERXri4dHa93F82JCRM5sy3FtBAZscYbf3GDwb9m6w3I3JHoV9WzXm43K4IaMljUW83M5LYYK1mZi3N84iMipe1A3TYFGd5lgam3U1vBj67kwg3VXtSL7OEiX3VrLmTOTnbe3X8FwU3BW403XPtA8bNbN23Xt03Rt8UPT3Z6DwRz8xRp0MJVry4LEvv0MU5Uit4fBq3dsEH7Oe8gM0MwXk6pAwZY3iL1uI83CQ23iTLbY8CRtz3iWc77tvFRG3jIqSW7qLzl3kCeKKiumC53kqr1DzBIp23lZTUWtQcXX3nFZDlHGYug3nGI3zT8bf73pGUYgtmNVI3urig1Yiea43v0kSbsEFvy3vvmzeJP9xv3zTT3e1JsBB3zW409HNCJE41pdbjaiXkJ425xD79ACmY0P4c4PeqsxU46c5nBBbDqv47FmzrDZV5u47fdYJSJaFh4A139deM4sv4AFQfIiGaTD4BOekINdN1E4BTMAvQLnTK4CW0RC0UbDz4CgN6WguNUs4CzJucF6S8K4DWmfiqv4m34GDbyMnhlo74GPjmJ13r2D4GfX3fq13fV4HDJLi7yzuU4KRbUK1yw2a4L4d5GbqMIC4LGLKsjpXBI4Lb5dQP4VoK4ND7igNgSDD4Ppah4iEHdK4QX9wRO5yx04Qfb3N9OywH4QrPEOOkyNP4S3jAas2iwm4SH7BCUoipg4TcnqPeheA74UP94KP4wFS4X8gakLmMhP4Xn9ttqiePu4XuBVqg0DkC4Z7yTUhUmen4aRq7g0yCLo4bAlAjL11hE4cPnKouhpaS4cUTXrrVl434dDPMbNLC3k4dVYnfIXcB94dXPU5jxMA14dolYN32HyX4huzPr3tvyn4jeHYjMjfDw4k3CmYmoGmf4lZGK442hWS4oBv3Jz4rxM4oggy2um2Jv4opGrFzMOYk4pFu4hGNkSM4s2DzfGaieY4t5hXBF8rHt4vOtyUJVZIU4wlpXVlB2CR4ySIhhxxhkS4z3XCQVpS8N535OMzn1rS953dQ0jzV1bj55tCvmugt7c56RA0ck2vZp56Up4FRS7t356oB5iLJlbI57bm1DM78t157pISEQ1j6b5APaBoED5dt5BFcjUFIjJl5Briq7Pva7L5Bx2LHGBErk5CLStefW5vo5Cs7kFZrWCj0WMqgKwdXTF5Dyudo7tWea5EZ5e0rmCui5EfJqD6FNzc03FNQEJGjst5FYhDGQ0sYr5GBuOBMk9S65GIovbxXwo85GM3QtAj2Vz5HOMmlrO1DT5ISizzoF7mf5IowLpGI1q45JCdCehRisJ5JkTyhjHePJ0X2NzF4gnX65M4M3aZ9XXq5MrnSevnBVZ5NDXN3rJYkO5QO2o143O3w5RgBuAto8DK5SmorHT5Kxl0XsgIHQDzKr5UhbIln5aj20YCDiI5PWsy0YDaA1txFnT5Wu3JvQctm55WyVxohxyYS5XPZxe6HSe65ZTnWNnhbBr5a6Px1M8b8X5bjtg8QGQI90YrBwuHLumW5ctJMJDojRV5dEABq8WoAl5eoBqet5e2U5f43YvhaiAy5j883A8lZ1U0ZgIMxlVr395m9crnH3yQK0Zw9HoLKuHw5oDpmbKHCIr5oR6JjcltRJ5oeqXqmq6Gy5rHNiR4gh1n5rk157A3VZF5sVpxZY2lSU5tPzWq8Zlez5uJEQND9jjc0aoqTIivdK75xWvMHAXOAL5xiDVBlBXxM60HyJOvm1iD61A8HDe39GC0bJwMy3MzjK63jpDC7FCAU66CxHW7TlZt67Q5LSxbJfX694fLCGLhWK6C6I2liFedO6CU6iuyuK0B6D6oQpfYrmt6FtvhEddHUI0crdHzm7wgn6GuzRadxvuX6IOVvSfHZGC6JCRsh4wuJ06KRdjvwzIed6NCFG73tDNm6OevRPdhHK10dhEf2oCrAd6QH2AK6yLXJ6SNtpk1LYpG6TQgU41sdG36VlV28n4luX0eV1OksOoEx6XhxxUG3VKe6YFWQGLryYr6YMy7YDdHUY0ejwNmYhduq6Zwqs1aNYnr6bAddryOFWd6bRy79knwD46bfSAEdWNeB6cDewzNli2a6cVa1iaqs3E6cWlokuDh6R0f4jYLO4VOR6dBasQzvEiR6dQRcpn7CQ26eZBYHpefvZ6f1N1B99Nbm6fIz9Z3rwJy6gdsaMDTmVI6h7tcXvHIYS049YaFQoYFA6iC1if29RCM6idEUAMfcdz6jOG9sc8K4K6jrEnAQuRgB6l0biksBmJy6lEBaLVEczg6nKmQzywn5W6nYy0lfL2Q16nrpVzwGMtZ04EOf0kFLiE6qDnV6B4e8B6qzy0jdo0Z26rK8Xw4wpew6rUO2kzXecu6tCRxtRDiDX0gxMOOOggvF6vccNdNnAH86vgdRg9BWsy6wQ3O7HkzYR6x8VJROg9866xcm414bKQf6xfQWd2FXjv6xmFTDT4Yf06yzllO8XhNJ70cQsKQLRCW719z8cb7vHy72Pyt4iHsBK74Rlx5rdbI574tT2wKvlrX75RW7mZRVv775RwrdqhxOu75X7e8N1oQt763Gpkybs9Z76bp6QFbAxQ76tKLvzKIPm7BUIirD9W8c7CV3qdLPOgD7D52dk2SQ0u7DHOgTMyUtR7FamTjUTsbU7Guf91N97zC7J5Q5nRrkVU0jJJpTtb6TR7Jeq7gxb5a57Js3gLhfIha0jSndTykZpW7MlV24WChOS7OOa7ajnY4n7ObDcHel0kF7PJ3lKbrh1E0k5iEaRhgeE7Wt9WgpN5zM7Xcqicg3Iql7XdCz5akUMb7Xxq1IM5jSy7YujcRtLbuV7YwRXrf7nqX0kvvcQom7O87cCd43o83BI7cnLj1Z3Xb60lIQYOSjLxb7hTk2bZ8yZh7ikYZ5SMFaa7jovksUrA7x7kAxHWcZQRz7kd6GwCMkAc7lTUeLnijPS7lt2R5iBYgn7mW2ts8P6iP7n3KpdpthdE7nR5AwPvtts7r9Svy6ulMG7tc5GiMhxMl0n6gXUze6ZQ7xMiysKfdcs7xt3Kug6c6n7y9qb7vD3yn7zEbZEOT3SE0nYK7Em6HPc80l0DYLsyXs82AFdm9eqhy830yXXb3nYQ83kZOlXpvf10o3eW7ZUGsE8834Dxine5O89LylpWsxe28B7fTlLaQzy8BcnTM8N4VZ0owD6wCCQci8DYhKolu8T78DfeUtDcaNh8DqcX5NIQa08IpNrnqYq6K8Jb0q3yGqo28KGi2oHyVvY8LbcNUSpraA05BFb0zai9B8Nl3jfxW6qt8NqGVj57q618OUCzygJ85G8OaW90wCgVv8PS8GehrT7J8PufdDZUiqU8QVEnirfBGi8QkCXt9aiSX8RQhX5xG3In8SuNY2LtYX88U2pFerr9EN8UKRGRGll6b8XJxY3Beh430qz6K9KNOO78Yx7qIGRRfH8bPFQlmAMCv8etZLzhBIUJ8foP56A50yc0rpdRRqaeEv8gr1AQU4xGB8iJLti7nyaE8ic32APr3hU8kTHap2nGu88m6IPI1jQ3J8pApo51DcKp8pOGhrrnaZs8qBDG7v1MMu8sLZ9ivhj5v8t6XbH3M3WH8vvqvjs3NVq8xjhhgjWHFe8y9OpqySntA92khF6ouaDY0uBMOWeUmqO94saCBsrFh195wBqHzOmHZ96BJ1gYvpKO0unSs3QwNAO9BQuPoZ2DAL9BbHM5hKAva9D8eTi5u92Q9DzaZXa1Z7D9ElicI5LZL49Fo5yBXsWhd9Fq8R8XSdx39G0BLDT2UFY9GyurYIx0Sb9IErmiEit4l9IfSXVsu0D19IrbseHCzvh0vuErmYiIGJ9L5nak3IjjZ9LyOPIfyiiG9M5FytaCmHG0w7H6pZ82Ht9NZK8XBzoP39OcTEb1ECbv9R2KC9WOIah9SO2UYzppJy9T3PNdbpBXO9TjsCZ0YP7q9U0PpQQFtlh0xCU3LeE56V9YjTvS42bPr9abYoBZQx3o9b2eJlTrwIA9bQD9QAxVCt9eMpdmqLJgp9fN4YDdS6X39frubOKBFSE9gAAodZfKtG9hL0nUqMf079k8aChBqktn9lYf3wFbHTK9m2tCFV2MNE9pE7TFU2rSh9q9xF7rrSsk9qesvB19o2w9rXY2pJ1T7y9sI1kK6kuzk9t1hwxPuw939uCpHakPzGm9ufTfcDiFBS9vwwIt9fjBa9y3hNxFzxYE9y6n4pxIfhW9ycuhtxauVtA01XJRU0ZgOA0485a9tq89104Sol070vtA1RxlA8KXUXA1bbSHDYUU7A2j0yGpJus7A4DvRIXJVYv10XLKgOFSsyA5rVR9VVRUzA6XkigdDohPA6xFNCyHsS2A87VBKdAl4wAAkPlkI9qSKABJlpvAOohiABQ5TM7k0joACSYkzROx2wAClqqJX2BH5ADCiXBEFCXiAGylBd5uaVUAHUNDKGqWFZAHxSvES2WyGAJ43oXshBRRAJVJSNyGXugAJY0aKyFvHPAKXHOxiZjuLALSYQjpAnVtALUxP9bQROTALklmQDZnnGAMCXIgkz1lIAOVmP61eDWfAPzb7c5TloSARRS0jPT6XGARe4TcQOaWVARwlHVfs2GmASUXMI1DSYcATSVp9g4gdMAUzr1bpWMpGAXhT9MWV9zsAXyTHuIYHvPAYTTrocjawFAYlJKWeh8xMAZYCaqMALv6AabsPKFz7gmAb5jSIpdZn6AbX12HuhRZxAck0IU9E9DEAdixEJEjRuAAeE7JbitsTpAevkjQ5cnFBAfY5dSs7NyxAfsI4gusfVPAiegrttWXjr14YZM3iob5ZAkKhsosnKH4Al0ZI8BRkTEAmw0WnulDzLAnDUTzhbGl4Ans1xP06gDIApit07XvakQAqu5JrtKvBVAr1mK4ChKz0ArMNVrZdYaUArRSCFQWW2PAsM3ytWDfvdAsuIiFISfySAtVh95vaEKcAuc1nm30MawAx7WWGiaHwPAxE0ebYmp95AzycyIebztb16KeYMNUfNhB1gsESbiT4hB20meMhbVNXB2SxgUdJigjB2TWzstAtIBB4ajBExnLD6B7RHJAH6PMZB7nn41FBoihB7xLJYURdO3B88AjDvnz8yBBH2ogieST1BD2FHjwIBCVBGyRBq5g7dWBH4Hfq1jTR9BIq2oN0XzHSBJkhbHGxDkaBM79lVrUeCIBN0Q5SbPU5hBNbP7l3dQkQBOr5GxxC4RhBOt3ZZ3lbLeBPf4mIb1H7lBQMWdeGsnurBQTSJEPAc84BS5J7xFOYpwBSDK5u4mrgEBSKfsV7zxmQBTbckGRfHIJBTtmesYyJVB19ElEzhIZoy19KstMkaFynBVUdtMhkxGYBVeGvZZ0C0u19PkrhpyoZjBWaTf9ijTCwBWwEaHZUIYABZHvsfGWnivBZWer0wRgQzBZxUbjzO1auBcN9SrXjigj1A79zwgAv0zBdSTKqY8suqBdkVSRyfv2tBg5TNPHuEQRBgqvqXPDMnTBgvNJr3IO6fBjNTfd7QAHzBjtY8kVFy5EBjzSfEj6V8aBkgRPiaCpIi1AtbQ7wVgAzBmDASWZxjWlBmmIqiv6uJABmpX6ANHTYlBnNW5nt0JiABnkMEdBLn3O1BIJRsjnGO9BozCQY6rpOVBpZLzPkGLhwBqIz91HgYF01BfZg0YyVnhBtOcR9KQTpj07NMt0oLjBy1BoQkLBvDQOBuH6aZLkBvZBuQS8FzlWwt"
end PySem.W.Fast
open Lean in
local macro_rules
 | `($m:declModifiers $d:definition) => do
  unless m.raw[4].isNone do Macro.throwUnsupported
  return mkNode `Lean.Parser.Command.declaration #[m.raw.setArg 4 (mkNullNode #[mkNode `Lean.Parser.Command.noncomputable #[mkAtom "noncomputable"]]), d]
noncomputable section
section
namespace Hk
open PySem PySem.W
theorem chs {α β:Type}{f:β→α}{l:List β}{γ:Type}{g:γ→α}{l2:List γ}{n m k:Nat} (h1:((l.drop n).take m).map f=((l2.drop n).take m).map g) (hk:n+m=k) (h2:(l.drop k).map f=(l2.drop k).map g):(l.drop n).map f=(l2.drop n).map g:=by
  subst hk
  rw [← List.take_append_drop m (l.drop n),← List.take_append_drop m (l2.drop n),List.map_append,List.map_append,h1,List.drop_drop,List.drop_drop,h2]
theorem ch {K:Params→Frag}{as:List Addr} (e:∀ P,as=(K P).map (·.1)) (w:World) (s:Shared) (x:((((((as.drop 0).take 64).map s.heap.get?,((as.drop 64).take 64).map s.heap.get?),(((as.drop 128).take 64).map s.heap.get?,((as.drop 192).take 64).map s.heap.get?)),((((as.drop 256).take 64).map s.heap.get?,((as.drop 320).take 64).map s.heap.get?),(((as.drop 384).take 64).map s.heap.get?,((as.drop 448).take 64).map s.heap.get?))),(((((as.drop 512).take 64).map s.heap.get?,((as.drop 576).take 64).map s.heap.get?),(((as.drop 640).take 64).map s.heap.get?,((as.drop 704).take 64).map s.heap.get?)),((((as.drop 768).take 64).map s.heap.get?,((as.drop 832).take 64).map s.heap.get?),(((as.drop 896).take 64).map s.heap.get?,(as.drop 960).map s.heap.get?))))=(((((((K w.params).drop 0).take 64).map (fun p=>some p.2),(((K w.params).drop 64).take 64).map (fun p=>some p.2)),((((K w.params).drop 128).take 64).map (fun p=>some p.2),(((K w.params).drop 192).take 64).map (fun p=>some p.2))),(((((K w.params).drop 256).take 64).map (fun p=>some p.2),(((K w.params).drop 320).take 64).map (fun p=>some p.2)),((((K w.params).drop 384).take 64).map (fun p=>some p.2),(((K w.params).drop 448).take 64).map (fun p=>some p.2)))),((((((K w.params).drop 512).take 64).map (fun p=>some p.2),(((K w.params).drop 576).take 64).map (fun p=>some p.2)),((((K w.params).drop 640).take 64).map (fun p=>some p.2),(((K w.params).drop 704).take 64).map (fun p=>some p.2))),(((((K w.params).drop 768).take 64).map (fun p=>some p.2),(((K w.params).drop 832).take 64).map (fun p=>some p.2)),((((K w.params).drop 896).take 64).map (fun p=>some p.2),((K w.params).drop 960).map (fun p=>some p.2)))))):InK K w s.heap:=by
  simp only [Prod.mk.injEq] at x
  obtain⟨⟨⟨⟨x0,x1⟩,⟨x2,x3⟩⟩,⟨⟨x4,x5⟩,⟨x6,x7⟩⟩⟩,⟨⟨⟨x8,x9⟩,⟨x10,x11⟩⟩,⟨⟨x12,x13⟩,⟨x14,x15⟩⟩⟩⟩:=x
  have y15:=x15
  have y14:=chs x14 (by decide) y15
  have y13:=chs x13 (by decide) y14
  have y12:=chs x12 (by decide) y13
  have y11:=chs x11 (by decide) y12
  have y10:=chs x10 (by decide) y11
  have y9:=chs x9 (by decide) y10
  have y8:=chs x8 (by decide) y9
  have y7:=chs x7 (by decide) y8
  have y6:=chs x6 (by decide) y7
  have y5:=chs x5 (by decide) y6
  have y4:=chs x4 (by decide) y5
  have y3:=chs x3 (by decide) y4
  have y2:=chs x2 (by decide) y3
  have y1:=chs x1 (by decide) y2
  have y0:=chs x0 (by decide) y1
  exact InK.of e w s y0
end Hk
open Lean in
local macro_rules
  | `($f:ident $h:term)=>do
    let n:=f.getId.eraseMacroScopes
    unless n == `Hook.obs || n == `Hook.val || n == `Hook.of do Macro.throwUnsupported
    match h with
    | `(($g:ident $k $a $e)) =>
      unless g.getId.eraseMacroScopes == `kHook do Macro.throwUnsupported
      if n == `Hook.obs then `(fun (s:PySem.Shared)=>((((((($a).drop 0).take 64).map s.heap.get?,((($a).drop 64).take 64).map s.heap.get?),(((($a).drop 128).take 64).map s.heap.get?,((($a).drop 192).take 64).map s.heap.get?)),((((($a).drop 256).take 64).map s.heap.get?,((($a).drop 320).take 64).map s.heap.get?),(((($a).drop 384).take 64).map s.heap.get?,((($a).drop 448).take 64).map s.heap.get?))),(((((($a).drop 512).take 64).map s.heap.get?,((($a).drop 576).take 64).map s.heap.get?),(((($a).drop 640).take 64).map s.heap.get?,((($a).drop 704).take 64).map s.heap.get?)),((((($a).drop 768).take 64).map s.heap.get?,((($a).drop 832).take 64).map s.heap.get?),(((($a).drop 896).take 64).map s.heap.get?,(($a).drop 960).map s.heap.get?)))))
      else if n == `Hook.val then `(fun (w:PySem.World)=>(((((((($k) w.params).drop 0).take 64).map (fun p=>some p.2),(((($k) w.params).drop 64).take 64).map (fun p=>some p.2)),((((($k) w.params).drop 128).take 64).map (fun p=>some p.2),(((($k) w.params).drop 192).take 64).map (fun p=>some p.2))),(((((($k) w.params).drop 256).take 64).map (fun p=>some p.2),(((($k) w.params).drop 320).take 64).map (fun p=>some p.2)),((((($k) w.params).drop 384).take 64).map (fun p=>some p.2),(((($k) w.params).drop 448).take 64).map (fun p=>some p.2)))),((((((($k) w.params).drop 512).take 64).map (fun p=>some p.2),(((($k) w.params).drop 576).take 64).map (fun p=>some p.2)),((((($k) w.params).drop 640).take 64).map (fun p=>some p.2),(((($k) w.params).drop 704).take 64).map (fun p=>some p.2))),(((((($k) w.params).drop 768).take 64).map (fun p=>some p.2),(((($k) w.params).drop 832).take 64).map (fun p=>some p.2)),((((($k) w.params).drop 896).take 64).map (fun p=>some p.2),((($k) w.params).drop 960).map (fun p=>some p.2))))))
      else `(Hk.ch (K:=$k) (as:=$a) $e)
    | _=>Macro.throwUnsupported
open PySem PySem.W PyProof.Rows
set_option maxHeartbeats 0 in
open_top PySem.Challenge.hd61 for PySem.Challenge.rw_askpaper_k61_one_atom_come_to
end
namespace L2
open PySem PySem.Spec PyProof.Rows
abbrev Key:=Sum Int Str
def Ju:Key→Value→Bool
 | .inl k,v=>Value.isInt k v
 | .inr x,v=>Value.isStrOf x v
def asY (w:World):Key→Int
 | .inl k=>hashInt k
 | .inr x=>hashStr w x
theorem yW:∀ {k:Key}{v:Value},Ju k v=true→(∃ i t,k=Sum.inl i∧v=Value.int i t)∨(∃ x t,k=Sum.inr x∧v=Value.str x t)
 | .inl i,v,h=>by
   obtain⟨t,e⟩:=Value.isInt_shape (k:=i) (v:=v) h
   exact .inl ⟨i,t,rfl,e⟩
 | .inr x,v,h=>by
   obtain⟨t,e⟩:=Value.isStrOf_shape (x:=x) (v:=v) h
   exact .inr ⟨x,t,rfl,e⟩
theorem T3 (i:Int) (t:Tok):Ju (.inl i) (.int i t)=true:=by simp [Ju,Value.isInt]
theorem T4 (x:Str) (t:Tok):Ju (.inr x) (.str x t)=true:=by simp [Ju,Value.isStrOf]
theorem abI (a b:Int):decide ((Sum.inl a:Key)=Sum.inl b)=(a == b):=by
 by_cases e:a=b
 · subst e;simp
 · have h:¬ (Sum.inl a:Key)=Sum.inl b:=fun q=>e (Sum.inl.inj q)
   rw [decide_eq_false h]
   exact (beq_eq_false_iff_ne.mpr e).symm
theorem abJ (a b:Str):decide ((Sum.inr a:Key)=Sum.inr b)=decide (a=b):=by
 by_cases e:a=b
 · subst e;simp
 · have h:¬ (Sum.inr a:Key)=Sum.inr b:=fun q=>e (Sum.inr.inj q)
   rw [decide_eq_false h,decide_eq_false e]
theorem abK (a:Int) (b:Str):decide ((Sum.inl a:Key)=Sum.inr b)=false:=decide_eq_false (fun q=>nomatch q)
theorem abL (a:Str) (b:Int):decide ((Sum.inr a:Key)=Sum.inl b)=false:=decide_eq_false (fun q=>nomatch q)
def dh (prog:Program) (w:World):PySem.KeyKind prog w Key where
 is:=Ju
 hash:=asY w
 inj:=fun v a b ha hb=>by
   rcases yW ha with ⟨i,t,rfl,rfl⟩ | ⟨x,t,rfl,rfl⟩
   · rcases yW hb with ⟨j,u,rfl,e⟩ | ⟨y,u,rfl,e⟩
     · injection e with e1 _;rw [e1]
     · exact nomatch e
   · rcases yW hb with ⟨j,u,rfl,e⟩ | ⟨y,u,rfl,e⟩
     · exact nomatch e
     · injection e with e1 _;rw [e1]
 byValue:=fun k v h=>by
   rcases yW h with ⟨i,t,rfl,rfl⟩ | ⟨x,t,rfl,rfl⟩ <;> rfl
 pyHash:=fun hv h=>by
   rcases yW hv with ⟨i,t,rfl,rfl⟩ | ⟨x,t,rfl,rfl⟩
   · exact wpAny_pyHash_int h
   · exact wpAny_pyHash_str h
 eqBool:=fun hu hv h=>by
   rcases yW hu with ⟨i,t,rfl,rfl⟩ | ⟨x,t,rfl,rfl⟩
   · rcases yW hv with ⟨j,u,rfl,rfl⟩ | ⟨y,u,rfl,rfl⟩
     · rw [abI] at h;exact wpAny_eqBool_int h
     · rw [abK] at h;exact SeqAt.EqAt.int_str i t y u _ _ _ _ h
   · rcases yW hv with ⟨j,u,rfl,rfl⟩ | ⟨y,u,rfl,rfl⟩
     · rw [abL] at h;exact SeqAt.EqAt.str_int x t j u _ _ _ _ h
     · rw [abJ] at h;exact wpAny_eqBool_str h
 «strs»:=fun k x t v h=>by
   rcases yW h with ⟨i,u,rfl,e⟩ | ⟨y,u,rfl,e⟩
   · exact nomatch e
   · injection e with e1 _
     subst e1
     cases v <;> rfl
theorem Mz (prog:Program) (w:World) (i:Int) (t:Tok):(dh prog w).is (.inl i) (.int i t)=true:=T3 i t
theorem MF (prog:Program) (w:World) (x:Str) (t:Tok):(dh prog w).is (.inr x) (.str x t)=true:=T4 x t
end L2
namespace L2
open PySem PySem.Spec PyProof.Rows
inductive V where
 | non | bl (b:Bool) | int (i:Int) | str (x:Str) | Sv (b:Array UInt8) | flt (b:UInt64) | ref (a:Addr) | ty (n:String)
 deriving DecidableEq
def RelV:V→Value→Prop
 | .non,u=>u=Value.none
 | .bl b,u=>u=Value.bool b
 | .int i,u=>∃ t,u=Value.int i t
 | .str x,u=>∃ t,u=Value.str x t
 | .Sv b,u=>∃ t,u=Value.bytes b t
 | .flt b,u=>∃ t,u=Value.float b t
 | .ref a,u=>u=Value.ref a
 | .ty n,u=>u=Value.type n
abbrev Vals:List V→List Value→Prop:=Paired RelV
theorem Vals.length {xs:List V}{us:List Value} (r:Vals xs us):xs.length=us.length:=Paired.length r
theorem Vals.get:∀ {xs:List V}{us:List Value}{i:Nat}{x:V},Vals xs us→xs[i]? = some x→∃ u,us[i]? = some u∧RelV x u
 | _,_,_,_,.nil,e=>by simp at e
 | _,_,0,_,.cons r _,e=>by simp at e;subst e;exact⟨_,rfl,r⟩
 | _,_,i+1,x,.cons _ t,e=>by
   obtain⟨u,h1,h2⟩:=Vals.get (i:=i) (x:=x) t (by simpa using e)
   exact⟨u,by simpa using h1,h2⟩
theorem Vals.set {x:V}{u:Value} (r:RelV x u):∀ {xs:List V}{us:List Value} (i:Nat),Vals xs us→Vals (xs.set i x) (us.set i u)
 | _,_,_,.nil=>.nil
 | _,_,0,.cons _ t=>.cons r t
 | _,_,i+1,.cons q t=>.cons q (Vals.set r i t)
theorem Vals.append:∀ {xs ys:List V}{us ws:List Value},Vals xs us→Vals ys ws→Vals (xs++ys) (us++ws)
 | _,_,_,_,.nil,s=>s
 | _,_,_,_,.cons r t,s=>.cons r (Vals.append t s)
theorem Vals.take:∀ {xs:List V}{us:List Value} (n:Nat),Vals xs us→Vals (xs.take n) (us.take n)
 | _,_,0,_=>.nil
 | _,_,_+1,.nil=>.nil
 | _,_,n+1,.cons r t=>.cons r (Vals.take n t)
theorem Vals.drop:∀ {xs:List V}{us:List Value} (n:Nat),Vals xs us→Vals (xs.drop n) (us.drop n)
 | _,_,0,r=>r
 | _,_,_+1,.nil=>.nil
 | _,_,n+1,.cons _ t=>Vals.drop n t
theorem Vals.none_of:∀ {xs:List V}{us:List Value}{i:Nat},Vals xs us→xs[i]? = none→us[i]? = none:=fun {xs us i} r e=>by
 have h1:=r.length
 have h2:xs.length≤i:=List.getElem?_eq_none_iff.mp e
 exact List.getElem?_eq_none_iff.mpr (by omega)
def rK:Option V→Option Value→Prop
 | some v,some u=>RelV v u
 | none,none=>True
 | _,_=>False
def KV {κ:Type}:List (κ × V)→List (κ × Value)→Prop:=Paired fun (p:κ × V) (q:κ × Value)=>p.1=q.1∧RelV p.2 q.2
def kV:Key→V
 | .inl i=>.int i
 | .inr x=>.str x
inductive HO where
 | lst (xs:List V)
 | tup (xs:List V)
 | dK (kvs:List (Key × V)) | dT (kvs:List (List Key × V))
 | set (S:Int→Bool) (n:Nat)
 | ins (C dx:Addr) (fs:List (Str × V))
 | own (x:Addr)
 | xd (fs:List (Str × V))
 | met (f x:Addr)
 | rng (lo hi:Int)
 | ud (o:Obj) (u:HO)
 | iI (ps:Array Value)
 | ext (φ:Heap→Prop)
abbrev Hp:=Addr→Option HO
def upd (H:Hp) (a:Addr) (o:HO):Hp:=fun b=>if b=a then some o else H b
theorem zB {H:Hp}{a:Addr}{o:HO}:upd H a o a=some o:=by unfold upd;rw [if_pos rfl]
theorem zI {H:Hp}{a b:Addr}{o:HO} (h:b≠a):upd H a o b=H b:=by unfold upd;rw [if_neg h]
theorem yH {H:Hp}{a:Addr}{o u:HO}:upd (upd H a o) a u=upd H a u:=by
 funext b;unfold upd;split <;> rfl
theorem yN {H:Hp}{a b:Addr}{o u:HO} (h:H a=some o) (h':H b=some u) (d:o≠u):a≠b:=by
 intro e;subst e;rw [h] at h';exact d (Option.some.inj h')
theorem zJ {H:Hp}{a b:Addr}{o:HO} (h:H a=some o) (h':H b=none):a≠b:=by
 intro e;subst e;rw [h] at h';cases h'
section
variable (P:Program) (w:World)
def cI (H:Hp) (h:Heap) (a:Addr):HO→Prop
 | .lst xs=>xs.length≤sizeLine∧∃ (its:List Value) (n:Nat),Vals xs its∧h.get? a=some { cls:=.type "list",data:=.seq its.toArray n }
 | .tup xs=>xs.length≤sizeLine∧∃ its:List Value,Vals xs its∧IsTup h a its.toArray
 | .dK kvs=>kvs.length≤sizeLine∧(a == sysModules)=false∧∃ vs,KV kvs vs∧h.DictOf (dh P w) a vs
 | .dT kvs=>kvs.length≤sizeLine∧(a == sysModules)=false∧∃ xs:List (List Key × Addr × Value),
     Paired (fun (p:List Key × V) (q:List Key × Addr × Value)=>p.1=q.1∧H q.2.1=some (.tup (p.1.map kV))∧RelV p.2 q.2.2) kvs xs ∧
     ∃ o es ep,h.get? a=some o∧o.ExactDict∧o.data=.dict es ep∧es.toList=xs.map (entryOfKey (tupleKind (dh P w)))∧(xs.map (·.1)).Nodup
 | .set S n=>h.SetOf (intKind P w) a S n
 | .ins C dx fs=>H dx=some (.own a)∧fs.length≤1000∧dx≠a∧h.get? a=some (PySem.W.instObj C dx) ∧
     ∃ mA,h.Ns1 dx mA∧(∀ f,rK (fs.lookup f) (mA f))∧PySem.Within mA (fs.map (·.1))
 | .own _=>∃ o,h.get? a=some o
 | .xd fs=>∃ mA,h.Ns1 a mA∧∀ f,rK (fs.lookup f) (mA f)
 | .rng lo hi=>∃ t u v,h.get? a=some { cls:=.type "range",data:=.fields #[.int lo t,.int hi u,.int 1 v] }
 | .ud o u=>h.get? a=some o∧cI H h a u
 | .iI ps=>∃ ts:Array Value,h.get? a=some { cls:=.none,data:=.fields ts }∧((ts=#[]∧∃ q ln cl,ps=#[.str q 0,ln,cl]) ∨
     ∃ q ln cl c',ts=#[ln,cl,.ref c']∧(ps=#[.str q 0,ln,cl]∨ps=#[.str q 0,ln,cl,.ref c'])∧H c'=some (.own a)∧h.CodeRec (.ref c') q)
 | .met f x=>h.get? a=some (PySem.W.methodObj (.ref f) (.ref x))
 | .ext φ=>φ h∧(∃ o,h.get? a=some o)∧∀ h1 h2:Heap,φ h1→(∀ o,h1.get? a=some o→h2.get? a=some o)→φ h2
def rU (H:Hp) (h:Heap):Prop:=∀ a o,H a=some o→cI P w H h a o
end
section
variable {P:Program}{w:World}{H H':Hp}{h h':Heap}{a:Addr}{o:HO}
theorem cI.lt (x:cI P w H h a o):a<h.objs.size:=by
 cases o with
 | lst xs=>obtain⟨_,_,_,_,e⟩:=x;exact Heap.lt_size e
 | tup xs=>obtain⟨_,_,_,p⟩:=x;exact p.lt
 | dK kvs=>obtain⟨_,_,_,_,o,_,_,e,_⟩:=x;exact Heap.lt_size e
 | dT kvs=>obtain⟨_,_,_,_,o,_,_,e,_⟩:=x;exact Heap.lt_size e
 | set S n=>obtain⟨o,_,_,_,e,_⟩:=x;exact Heap.lt_size e
 | ins C dx fs=>obtain⟨_,_,_,e,_⟩:=x;exact Heap.lt_size e
 | own y=>obtain⟨_,e⟩:=x;exact Heap.lt_size e
 | xd fs=>obtain⟨_,⟨_,_,_,e,_⟩,_⟩:=x;exact Heap.lt_size e
 | rng lo hi=>obtain⟨_,_,_,e⟩:=x;exact Heap.lt_size e
 | ud ob u=>obtain⟨e,_⟩:=x;exact Heap.lt_size e
 | iI ps=>obtain⟨_,e,_⟩:=x;exact Heap.lt_size e
 | met f y=>exact Heap.lt_size (show h.get? a=some _ from x)
 | ext φ=>obtain⟨_,⟨_,e⟩,_⟩:=x;exact Heap.lt_size e
theorem Paired.Zf {α β:Type}{F G:α→β→Prop}:∀ {l₁:List α}{l₂:List β},Paired F l₁ l₂→(∀ a b,F a b→G a b)→Paired G l₁ l₂
 | _,_,.nil,_=>.nil
 | _,_,.cons r t,f=>.cons (f _ _ r) (Paired.Zf t f)
theorem cI.stay (x:cI P w H h a o) (k:∀ b u,(b=a∨H b=some (.own a))→h.get? b=some u→h'.get? b=some u)
   (ho:∀ b,H b=some (.own a)→H' b=some (.own a)) (ht:∀ b xs,H b=some (.tup xs)→H' b=some (.tup xs)):cI P w H' h' a o:=by
 induction o with
 | lst xs=>obtain⟨z,its,n,r,e⟩:=x;exact⟨z,its,n,r,k _ _ (.inl rfl) e⟩
 | tup xs=>obtain⟨z,its,r,ob,e,c⟩:=x;exact⟨z,its,r,ob,k _ _ (.inl rfl) e,c⟩
 | dK kvs=>obtain⟨z,y,vs,r,ob,es,ep,e,c⟩:=x;exact⟨z,y,vs,r,ob,es,ep,k _ _ (.inl rfl) e,c⟩
 | dT kvs =>
   obtain⟨z,y,xs,r,ob,es,ep,e,c⟩:=x
   exact⟨z,y,xs,Paired.Zf r fun p q z=>⟨z.1,ht _ _ z.2.1,z.2.2⟩,ob,es,ep,k _ _ (.inl rfl) e,c⟩
 | set S n=>obtain⟨ob,es,ep,t,e,c⟩:=x;exact⟨ob,es,ep,t,k _ _ (.inl rfl) e,c⟩
 | ins C dx fs =>
   obtain⟨d,z,ne,e,mA,⟨od,es,ep,e2,c⟩,r⟩:=x
   exact⟨ho _ d,z,ne,k _ _ (.inl rfl) e,mA,⟨od,es,ep,k _ _ (.inr d) e2,c⟩,r⟩
 | own y=>obtain⟨ob,e⟩:=x;exact⟨ob,k _ _ (.inl rfl) e⟩
 | xd fs=>obtain⟨mA,⟨od,es,ep,e,c⟩,r⟩:=x;exact⟨mA,⟨od,es,ep,k _ _ (.inl rfl) e,c⟩,r⟩
 | rng lo hi=>obtain⟨t,u,v,e⟩:=x;exact⟨t,u,v,k _ _ (.inl rfl) e⟩
 | ud ob u ih=>obtain⟨e,q⟩:=x;exact⟨k _ _ (.inl rfl) e,ih q⟩
 | iI ps =>
   obtain⟨ts,e,d⟩:=x
   refine⟨ts,k a _ (.inl rfl) e,?_⟩
   rcases d with d | ⟨q,ln,cl,c',e1,e2,e3,c2,o,vs,t,e4,e5,e6⟩
   · exact .inl d
   · cases e4
     exact .inr ⟨q,ln,cl,c',e1,e2,ho _ e3,c',o,vs,t,rfl,k _ _ (.inr e3) e5,e6⟩
 | met f y =>
   have e:h.get? a=some (PySem.W.methodObj (.ref f) (.ref y)):=x
   show h'.get? a=some (PySem.W.methodObj (.ref f) (.ref y))
   exact k a _ (.inl rfl) e
 | ext φ=>obtain⟨p,⟨o,e⟩,st⟩:=x;exact⟨st _ _ p fun o q=>k _ _ (.inl rfl) q,⟨o,k _ _ (.inl rfl) e⟩,st⟩
theorem rU.lt (x:rU P w H h) (e:H a=some o):a<h.objs.size:=(x a o e).lt
theorem rU.fresh (x:rU P w H h) (e:h.objs.size≤a):H a=none:=by
 cases q:H a with
 | none=>rfl
 | some u=>exact absurd (Nat.lt_of_lt_of_le (x.lt q) e) (Nat.lt_irrefl _)
theorem rU.kept (x:rU P w H h) (k:∀ b u,h.get? b=some u→h'.get? b=some u):rU P w H h':=fun a o e =>
 (x a o e).stay (fun b u _ q=>k b u q) (fun _ q=>q) fun _ _ q=>q
theorem rU.laid (x:rU P w H h) (k:∀ b u,h.get? b=some u→h'.get? b=some u) (hp:h.objs.size≤a) (new:cI P w (upd H a o) h' a o):rU P w (upd H a o) h':=fun b u e=>by
 have hn:=x.fresh hp
 by_cases hb:b=a
 · subst hb;rw [zB] at e;cases e;exact new
 · rw [zI hb] at e
   exact (x b u e).stay (fun c v _ q=>k c v q) (fun c q=>by rw [zI (zJ q hn)];exact q) fun c xs q=>by rw [zI (zJ q hn)];exact q
end
def Rd (H:Hp) (a:Addr) (u:HO):Prop:=H a=some u∨∃ o,H a=some (.ud o u)
theorem Rd.of {H:Hp}{a:Addr}{u:HO} (h:H a=some u):Rd H a u:=.inl h
theorem Rd.ok {P:Program}{w:World}{H:Hp}{h:Heap}{a:Addr}{u:HO} (r:Rd H a u) (x:rU P w H h):cI P w H h a u:=by
 rcases r with r | ⟨o,r⟩
 · exact x a u r
 · obtain⟨_,q⟩:=x a _ r
   exact q
def Mut:Option HO→Prop
 | some (.lst _)=>True
 | some (.dK _)=>True
 | some (.dT _)=>True
 | some (.set _ _)=>True
 | some (.ins _ _ _)=>True
 | some (.ext _)=>True
 | _=>False
section
variable {P:Program}{w:World}{H:Hp}{h h':Heap}{x e:Addr}{o':HO}
theorem rU.write (ok:rU P w H h) (mu:Mut (H x)) (he:e=x∨H e=some (.own x)) (k:∀ b u,b≠e→h.get? b=some u→h'.get? b=some u) (heo:∃ u,h'.get? e=some u)
   (new:cI P w (upd H x o') h' x o'):rU P w (upd H x o') h':=fun b u q=>by
 have afF:∀ c y,H c=some (.own y)→c≠x:=fun c y r z=>by subst z;rw [r] at mu;exact mu
 have as3:∀ c xs,H c=some (.tup xs)→c≠x:=fun c xs r z=>by subst z;rw [r] at mu;exact mu
 by_cases hb:b=x
 · subst hb;rw [zB] at q;cases q;exact new
 · rw [zI hb] at q
   by_cases hbe:b=e
   · have q':H b=some (.own x):=by
       rcases he with z | z
       · exact absurd (hbe.trans z) hb
       · rw [hbe];exact z
     rw [q] at q';cases q'
     obtain⟨v,hv⟩:=heo
     exact⟨v,by rw [hbe];exact hv⟩
   · refine (ok b u q).stay (fun c v hc r=>k c v ?_ r) (fun c r=>by rw [zI (afF c b r)];exact r) fun c xs r=>by rw [zI (as3 c xs r)];exact r
     rcases hc with rfl | hc
     · exact hbe
     · rintro rfl
       rcases he with z | z
       · exact afF c b hc z
       · rw [hc] at z;cases z;exact hb rfl
end
structure Un (fs ex:List Addr) (H H':Hp) (h h':Heap):Prop where
 keep:∀ b o,h.get? b=some o→H b=none→b∉fs→b∉ex→h'.get? b=some o
 slot:∀ b o,h.get? b=some o→H b=none→b∈fs→b∉ex→∃ sl,h'.get? b=some { o with slots:=sl }
 free:∀ b o,h.get? b=some o→H b=none→b∉ex→H' b=none
 there:∀ b o,h.get? b=some o→b∉ex→∃ o',h'.get? b=some o'
 tups:∀ b xs,H b=some (.tup xs)→H' b=some (.tup xs)
 pD:∀ b o u,H b=some (.ud o u)→H' b=some (.ud o u)
 pF:∀ b ps,H b=some (.iI ps)→∃ more,H' b=some (.iI (ps++more))
section
variable {fs fs' ex ex':List Addr}{H H1 H2:Hp}{h h1 h2 h':Heap}{a x e:Addr}{o:HO}
theorem Un.any (u:Un fs ex H H1 h h1) {b:Addr}{ob:Obj} (q:h.get? b=some ob) (n:H b=none) (hx:b∉ex):∃ sl,h1.get? b=some { ob with slots:=sl }:=by
 by_cases hb:b∈fs
 · exact u.slot b ob q n hb hx
 · exact⟨ob.slots,u.keep b ob q n hb hx⟩
theorem Un.trans (a:Un fs ex H H1 h h1) (b:Un fs ex H1 H2 h1 h2):Un fs ex H H2 h h2 where
 keep:=fun c ob q n hc hx=>b.keep c ob (a.keep c ob q n hc hx) (a.free c ob q n hx) hc hx
 slot:=fun c ob q n hc hx=>by
   obtain⟨sl,e1⟩:=a.slot c ob q n hc hx
   obtain⟨sl',e2⟩:=b.slot c _ e1 (a.free c ob q n hx) hc hx
   exact⟨sl',e2⟩
 free:=fun c ob q n hx=>by
   obtain⟨o',e1⟩:=a.there c ob q hx
   exact b.free c o' e1 (a.free c ob q n hx) hx
 there:=fun c ob q hx=>by
   obtain⟨o',e1⟩:=a.there c ob q hx
   exact b.there c o' e1 hx
 tups:=fun c xs q=>b.tups c xs (a.tups c xs q)
 pD:=fun c ob xs q=>b.pD c ob xs (a.pD c ob xs q)
 pF:=fun c ps q=>by
   obtain⟨m1,e1⟩:=a.pF c ps q
   obtain⟨m2,e2⟩:=b.pF c _ e1
   exact⟨m1++m2,by rw [e2,Array.append_assoc]⟩
theorem Un.kept (k:∀ b u,h.get? b=some u→h'.get? b=some u):Un fs ex H H h h' :=
 ⟨fun b ob q _ _ _=>k b ob q,fun b ob q _ _ _=>⟨ob.slots,k b ob q⟩,fun _ _ _ n _=>n,fun b ob q _=>⟨ob,k b ob q⟩,fun _ _ q=>q,fun _ _ _ q=>q,fun _ ps q=>⟨#[],by rw [q];simp⟩⟩
theorem Un.refl:Un fs ex H H h h:=Un.kept fun _ _ q=>q
theorem Un.laid (k:∀ b u,h.get? b=some u→h'.get? b=some u) (hp:h.objs.size≤a) (hn:H a=none):Un fs ex H (upd H a o) h h' where
 keep:=fun b u q _ _ _=>k b u q
 slot:=fun b u q _ _ _=>⟨u.slots,k b u q⟩
 free:=fun b u q n _=>by rw [zI (Nat.ne_of_lt (Nat.lt_of_lt_of_le (Heap.lt_size q) hp))];exact n
 there:=fun b u q _=>⟨u,k b u q⟩
 tups:=fun b xs q=>by rw [zI (zJ q hn)];exact q
 pD:=fun b u xs q=>by rw [zI (zJ q hn)];exact q
 pF:=fun b ps q=>⟨#[],by rw [zI (zJ q hn),q];simp⟩
theorem Un.write (mu:Mut (H x)) (he:e=x∨H e=some (.own x)) (k:∀ b u,b≠e→h.get? b=some u→h'.get? b=some u) (heo:∃ u,h'.get? e=some u):Un fs ex H (upd H x o) h h':=by
 have hx:∀ b,H b=none→b≠x:=fun b n z=>by subst z;rw [n] at mu;exact mu
 have hb:∀ b,H b=none→b≠e:=fun b n z=>by
   subst z
   rcases he with r | r
   · exact hx b n r
   · rw [n] at r;cases r
 have hm:∀ b u,H b=some u→¬ Mut (some u)→b≠x:=fun b u q nm z=>by subst z;rw [q] at mu;exact nm mu
 refine⟨fun b u q n _ _=>k b u (hb b n) q,fun b u q n _ _=>⟨u.slots,k b u (hb b n) q⟩,fun b u q n _=>by rw [zI (hx b n)];exact n,fun b u q _=>?_,
   fun b xs q=>by rw [zI (hm b _ q fun z=>z)];exact q,fun b u xs q=>by rw [zI (hm b _ q fun z=>z)];exact q,fun b ps q=>⟨#[],by rw [zI (hm b _ q fun z=>z),q];simp⟩⟩
 by_cases hbe:b=e
 · subst hbe;exact heo
 · exact⟨u,k b u hbe q⟩
theorem Un.mono (u:Un fs ex H H1 h h1) (hs:∀ b∈fs,b∈fs') (hx:∀ b∈ex,b∈ex'):Un fs' ex' H H1 h h1 :=
 ⟨fun b ob q n hb he=>u.keep b ob q n (fun z=>hb (hs b z)) fun z=>he (hx b z),fun _ _ q n _ he=>u.any q n fun z=>he (hx _ z),fun b ob q n he=>u.free b ob q n fun z=>he (hx b z),fun b ob q he=>u.there b ob q fun z=>he (hx b z),u.tups,u.pD,u.pF⟩
end
def trk (h:Heap) (H:Hp):List Addr:=(List.range h.objs.size).filter fun a=>(H a).isSome
def Ia (h:Heap) (H:Hp):Heap:=PySem.W.hideAll h (trk h H)
theorem T5 (h:Heap) (H:Hp):(Ia h H).objs.size=h.objs.size:=PySem.W.hideAll_size _ _
theorem Vq {h:Heap}{H:Hp}{b:Addr}{o:Obj} (e:h.get? b=some o) (n:H b=none):(Ia h H).get? b=some o :=
 PySem.W.hideAll_get _ e fun hm=>by
   have q:(H b).isSome=true:=(List.mem_filter.mp hm).2
   rw [n] at q;simp at q
theorem Zg {h:Heap}{H:Hp}{b:Addr}{o:Obj} (e:(Ia h H).get? b=some o):h.get? b=some o∧H b=none:=by
 have e':h.get? b=some o:=PySem.W.of_hideAll (trk h H) e
 refine⟨e',?_⟩
 cases q:H b with
 | none=>rfl
 | some x =>
   have hm:b∈trk h H:=List.mem_filter.mpr ⟨List.mem_range.mpr (Heap.lt_size e'),by simp [q]⟩
   have z:(Ia h H).get? b=none:=PySem.W.hideAll_none (trk h H) hm
   rw [z] at e;cases e
def Zh (g h:Heap) (L:Addr):List (Addr × Obj):=(List.range h.objs.size).filterMap fun a=>if a=L∨(g.get? a).isSome=true then none else (h.get? a).map fun o=>(a,o)
def rest (g h:Heap) (L d:Addr):List (Addr × Obj):=(Zh g h L).filter fun p=>decide (p.1≠d)
end L2
namespace L2
open PySem PySem.Spec PyProof.Rows
structure Mod (K:PySem.W.Frag) (mg:Str→Option Value) (base:Heap):Prop where
 Zi:K.In base
 glob:base.Ns mainGlobals mg
 blt:∃ mb,base.Ns builtinsNs mb∧∀ x:Str,x≠"__name__"→mb x=bootBuiltins x
 nolimit:base.NoLimit
structure Cx where
 prog:Program
 w:World
 K:PySem.W.Frag
 mg:Str→Option Value
 base:Heap
 A:Around
 N:List Str
 s₀:Shared
 H₀:Hp
 env:Env
 outer:List Env
 stack:List Env
 ex:List Addr
 fn:Str→Bool
 calm:Bool
 pn:List (Addr × Obj)
 xe:Value→Shared→Prop
def frs (l:List Env):List Addr:=l.filterMap (·.frame)
abbrev Cx.fs (X:Cx):List Addr:=frs X.outer
def Vis (sc:Scope) (x:Str):Prop:=sc.names.lookup x=some .local∨sc.names.lookup x=some .cell∨sc.names.lookup x=some .free
def Loc (sc:Scope) (x:Str):Prop:=sc.names.lookup x=some .local∨sc.names.lookup x=some .cell
def Look (env:Env) (h:Heap) (m:Str→Option Value) (x:Str) (u:Value):Prop :=
 (env.kindOf x=some .local∧m x=some u)∨((env.kindOf x=some .cell∨env.kindOf x=some .free)∧∃ c,env.cells.lookup x=some c∧h.IsCell c (some u))
structure Cx.Ok (X:Cx):Prop where
 mod:Mod X.K X.mg X.base
 kind:X.env.scope.kind=.function
 glob:X.env.globals=mainGlobals
 blt:X.env.builtins=builtinsNs
 above:X.s₀.heap.objs.size≤X.env.locals
 inj:∀ x y c,X.env.cells.lookup x=some c→X.env.cells.lookup y=some c→x=y
 has:∀ x,(X.env.kindOf x=some .cell∨X.env.kindOf x=some .free)→∃ c,X.env.cells.lookup x=some c
 cab:∀ x c,X.fn x=true→X.env.cells.lookup x=some c→X.s₀.heap.objs.size≤c
 hd:X.calm=true→X.A.handled=none
 frames:X.A.frames=some X.stack
 stk:X.stack=X.outer∨(X.stack=X.env::X.outer∧X.env.frame=some X.env.locals)
 exf:∀ b∈X.ex,b≠X.env.locals∧∀ x c,X.env.cells.lookup x=some c→c≠b
 bs:∀ b o,X.base.get? b=some o→X.s₀.heap.get? b=some o∧X.H₀ b=none
 T6:X.base.objs.size≤X.s₀.heap.objs.size
 Vr:∀ b o,X.base.get? b=some o→b∉X.ex
 Zj:∀ b∈X.ex,b∉X.fs
 rW:X.s₀.heap.FunFrames X.base X.outer
 Vs:∀ b∈X.fs,X.H₀ b=none
structure Inv (X:Cx) (pins:List (Addr × Obj)) (σ:List (Option V)) (H:Hp) (s:Shared):Prop where
 ok:X.Ok
 os:s.os=X.s₀.os
 bare:AllBare s.gens
 base:Un X.fs X.ex X.H₀ H X.s₀.heap s.heap
 loc:∃ m,s.heap.Ns X.env.locals m∧∀ (i:Nat) (x:Str) (v:V),X.N[i]? = some x→σ[i]? = some (some v)→Vis X.env.scope x→∃ u,RelV v u∧Look X.env s.heap m x u
 cell:∀ x c,X.env.cells.lookup x=some c→∃ v,s.heap.IsCell c v
 free:H X.env.locals=none
 lA:∀ x c,X.env.cells.lookup x=some c→H c=none
 pin:∀ p∈X.pn++pins,s.heap.get? p.1=some p.2∧H p.1=none∧p.1≠X.env.locals∧p.1∉X.fs∧∀ v,p.2.data≠.cell v
 hok:rU X.prog X.w H s.heap
 len:σ.length=X.N.length
section
variable {X:Cx}{pins:List (Addr × Obj)}{σ:List (Option V)}{H H':Hp}{s:Shared}{h':Heap}
theorem Cx.Ok.as4 (ok:X.Ok) {b:Addr}{o:Obj} (e:X.base.get? b=some o):b∉X.fs:=fun hb=>by
 have:=(ok.rW.mem hb).1
 rw [e] at this;cases this
theorem Inv.bs (I:Inv X pins σ H s):∀ b o,X.base.get? b=some o→s.heap.get? b=some o∧H b=none:=fun b o e =>
 ⟨I.base.keep b o (I.ok.bs b o e).1 (I.ok.bs b o e).2 (I.ok.as4 e) (I.ok.Vr b o e),I.base.free b o (I.ok.bs b o e).1 (I.ok.bs b o e).2 (I.ok.Vr b o e)⟩
theorem Inv.bk (I:Inv X pins σ H s):∀ b o,X.base.get? b=some o→s.heap.get? b=some o:=fun b o e=>(I.bs b o e).1
theorem Inv.mod (I:Inv X pins σ H s):Mod X.K X.mg X.base:=I.ok.mod
theorem Inv.Dd (I:Inv X pins σ H s):X.K.In s.heap:=I.ok.mod.Zi.keeps I.bk
theorem Inv.nolimit (I:Inv X pins σ H s):s.heap.NoLimit:=I.ok.mod.nolimit.keeps I.bk
theorem Inv.fr (I:Inv X pins σ H s):∃ m,Fr X.base X.env.locals s.heap m :=
 let ⟨m,hn,_⟩:=I.loc
 ⟨m,hn,I.bk,Nat.le_trans I.ok.T6 I.ok.above⟩
theorem Inv.lt (I:Inv X pins σ H s):X.env.locals<s.heap.objs.size:=let ⟨_,hn,_⟩:=I.loc;hn.lt
theorem Inv.sz (I:Inv X pins σ H s):X.s₀.heap.objs.size≤s.heap.objs.size:=Nat.le_trans I.ok.above (Nat.le_of_lt I.lt)
theorem Inv.Zk (I:Inv X pins σ H s) {a:Addr} (h:s.heap.objs.size≤a):a∉X.fs:=fun hb=>by
 obtain⟨_,o,ho,_⟩:=I.ok.rW.mem hb
 exact absurd (Nat.lt_of_lt_of_le (Heap.lt_size ho) (Nat.le_trans I.sz h)) (Nat.lt_irrefl _)
theorem Inv.cne (I:Inv X pins σ H s):∀ x c,X.env.cells.lookup x=some c→c≠X.env.locals:=fun x c e z=>by
 obtain⟨v,o,ho,hd⟩:=I.cell x c e
 obtain⟨m,⟨o',es,ep,ho',hd',_⟩,_⟩:=I.loc
 rw [z,ho'] at ho;cases ho;rw [hd'] at hd;cases hd
theorem Inv.rW (I:Inv X pins σ H s):s.heap.FunFrames X.base X.outer:=by
 have all:∀ (l:List Env),(∀ b∈frs l,b∈X.fs)→X.s₀.heap.FunFrames X.base l→s.heap.FunFrames X.base l:=by
   intro l
   induction l with
   | nil=>intro _ _;trivial
   | cons env r ih =>
     intro hs hl
     obtain⟨hk,⟨L,o,hf,hn,ho,hd⟩,hr⟩:=hl
     have hL:L∈X.fs:=hs L (by unfold frs;rw [List.filterMap_cons,hf];exact List.mem_cons_self)
     obtain⟨sl,e⟩:=I.base.slot L o ho (I.ok.Vs L hL) hL fun z=>I.ok.Zj L z hL
     exact⟨hk,⟨L,_,hf,hn,e,hd⟩,ih (fun b hb=>hs b (by unfold frs;rw [List.filterMap_cons,hf];exact List.mem_cons_of_mem _ hb)) hr⟩
 exact all X.outer (fun _ hb=>hb) I.ok.rW
theorem Inv.stack (I:Inv X pins σ H s):s.heap.FunFrames X.base X.stack:=by
 rcases I.ok.stk with e | ⟨e,hf⟩
 · rw [e];exact I.rW
 · rw [e]
   obtain⟨m,hn,_⟩:=I.loc
   refine .cons (by rw [I.ok.kind];decide) hf hn ?_ I.rW
   exact Heap.get?_none_of_le (Nat.le_trans I.ok.T6 I.ok.above)
theorem Inv.zy (I:Inv X pins σ H s):∀ b∈frs X.stack,b∈X.env.locals::X.fs:=fun b hb=>by
 rcases I.ok.stk with e | ⟨e,hf⟩
 · rw [e] at hb;exact List.mem_cons_of_mem _ hb
 · rw [e] at hb
   unfold frs at hb
   rw [List.filterMap_cons,hf] at hb
   exact hb
theorem Inv.J8 (I:Inv X pins σ H s):∀ b∈frs X.stack,H b=none:=fun b hb=>by
 rcases List.mem_cons.mp (I.zy b hb) with e | hb
 · rw [e];exact I.free
 · obtain⟨_,o,ho,_⟩:=I.ok.rW.mem hb
   exact I.base.free b o ho (I.ok.Vs b hb) fun z=>I.ok.Zj b z hb
theorem Inv.step {g':Array GenState}{t':Nat}{d':Drawn}{ch:List Addr} (I:Inv X pins σ H s)
   (hch:∀ b∈ch,(b∈X.ex∨X.s₀.heap.objs.size≤b)∧b≠X.env.locals∧(∀ x c,X.env.cells.lookup x=some c→c≠b)∧∀ p∈X.pn++pins,p.1≠b)
   (keep:∀ b o,b≠X.env.locals→b∉X.fs→b∉ch→s.heap.get? b=some o→H b=none→h'.get? b=some o)
   (slot:∀ b o,b≠X.env.locals→b∈X.fs→b∉ch→s.heap.get? b=some o→H b=none→∃ sl,h'.get? b=some { o with slots:=sl }) (free:∀ b o,b∉ch→s.heap.get? b=some o→H b=none→H' b=none)
   (there:∀ b o,b∉ch→s.heap.get? b=some o→∃ o',h'.get? b=some o')
   (tups:∀ b xs,H b=some (.tup xs)→H' b=some (.tup xs)) (pD:∀ b o u,H b=some (.ud o u)→H' b=some (.ud o u)) (pF:∀ b ps,H b=some (.iI ps)→∃ more,H' b=some (.iI (ps++more)))
   (ns:∀ m,s.heap.Ns X.env.locals m→h'.Ns X.env.locals m) (hok:rU X.prog X.w H' h') (hg:AllBare g') :
   Inv X pins σ H' { s with heap:=h',gens:=g',drawn:=d',toks:=t' }:=by
 have neL:∀ b o,X.s₀.heap.get? b=some o→b≠X.env.locals:=fun b o e=>Nat.ne_of_lt (Nat.lt_of_lt_of_le (Heap.lt_size e) I.ok.above)
 have neC:∀ b o,X.s₀.heap.get? b=some o→b∉X.ex→b∉ch:=fun b o e hx hb=>by
   rcases (hch b hb).1 with z | z
   · exact hx z
   · exact absurd (Nat.lt_of_lt_of_le (Heap.lt_size e) z) (Nat.lt_irrefl _)
 have cellK:∀ x c,X.env.cells.lookup x=some c→∀ v,s.heap.IsCell c v→h'.IsCell c v:=fun x c e v ⟨o,ho,hd⟩=>by
   have nch:c∉ch:=fun z=>(hch c z).2.2.1 x c e rfl
   by_cases hc:c∈X.fs
   · obtain⟨sl,q⟩:=slot c o (I.cne x c e) hc nch ho (I.lA x c e)
     exact⟨_,q,hd⟩
   · exact⟨o,keep c o (I.cne x c e) hc nch ho (I.lA x c e),hd⟩
 refine⟨I.ok,I.os,hg,⟨fun b o e n hb hx=>?_,fun b o e n hb hx=>?_,fun b o e n hx=>?_,fun b o e hx=>?_,fun b xs e=>tups b xs (I.base.tups b xs e),fun b o xs e=>pD b o xs (I.base.pD b o xs e),fun b ps e=>?_⟩,?_,fun x c e=>?_,?_,fun x c e=>?_,fun p hp=>?_,hok,I.len⟩
 · exact keep b o (neL b o e) hb (neC b o e hx) (I.base.keep b o e n hb hx) (I.base.free b o e n hx)
 · obtain⟨sl,e1⟩:=I.base.slot b o e n hb hx
   obtain⟨sl',e2⟩:=slot b _ (neL b o e) hb (neC b o e hx) e1 (I.base.free b o e n hx)
   exact⟨sl',e2⟩
 · obtain⟨o',e1⟩:=I.base.there b o e hx
   exact free b o' (neC b o e hx) e1 (I.base.free b o e n hx)
 · obtain⟨o',e1⟩:=I.base.there b o e hx
   exact there b o' (neC b o e hx) e1
 · obtain⟨m1,e1⟩:=I.base.pF b ps e
   obtain⟨m2,e2⟩:=pF b _ e1
   exact⟨m1++m2,by rw [e2,Array.append_assoc]⟩
 · obtain⟨m,hn,hl⟩:=I.loc
   refine⟨m,ns m hn,fun i x v e1 e2 e3=>?_⟩
   obtain⟨u,r,l⟩:=hl i x v e1 e2 e3
   refine⟨u,r,?_⟩
   rcases l with l | ⟨k,c,e,z⟩
   · exact .inl l
   · exact .inr ⟨k,c,e,cellK x c e _ z⟩
 · obtain⟨v,z⟩:=I.cell x c e
   exact⟨v,cellK x c e v z⟩
 · obtain⟨m,⟨o,_,_,ho,_⟩,_⟩:=I.loc
   exact free _ o (fun z=>(hch _ z).2.1 rfl) ho I.free
 · obtain⟨v,o,ho,hd⟩:=I.cell x c e
   exact free c o (fun z=>(hch c z).2.2.1 x c e rfl) ho (I.lA x c e)
 · obtain⟨e,n,ne,nf,d⟩:=I.pin p hp
   have nch:p.1∉ch:=fun z=>(hch p.1 z).2.2.2 p hp rfl
   exact⟨keep p.1 p.2 ne nf nch e n,free p.1 p.2 nch e n,ne,nf,d⟩
theorem Inv.un {t':Nat} (I:Inv X pins σ H s) (u:Un X.fs [] H H' s.heap h') (hok:rU X.prog X.w H' h'):Inv X pins σ H' { s with heap:=h',toks:=t' }:=by
 obtain⟨m,⟨o,es,ep,ho,r⟩,_⟩:=id I.loc
 obtain⟨sl,hL⟩:=u.any ho I.free (by simp)
 exact I.step (g':=s.gens) (d':=s.drawn) (ch:=[]) (fun _ z=>nomatch z) (fun b o _ hb _ e n=>u.keep b o e n hb (by simp)) (fun b o _ hb _ e n=>u.slot b o e n hb (by simp)) (fun b o _ e n=>u.free b o e n (by simp)) (fun b o _ e=>u.there b o e (by simp)) u.tups u.pD u.pF (fun m' hm=>by
   obtain⟨o',es',ep',ho',r'⟩:=hm
   rw [ho] at ho';cases ho'
   exact⟨_,es',ep',hL,r'⟩) hok I.bare
theorem Inv.call {g':Array GenState}{t':Nat}{d':Drawn}{ch:List Addr} (I:Inv X pins σ H s) (u:Un (frs X.stack) ch H H' s.heap h') (hok:rU X.prog X.w H' h') (hg:AllBare g')
   (hch:∀ b∈ch,(b∈X.ex∨X.s₀.heap.objs.size≤b)∧b≠X.env.locals∧(∀ x c,X.env.cells.lookup x=some c→c≠b)∧∀ p∈X.pn++pins,p.1≠b) :
   Inv X pins σ H' { s with heap:=h',gens:=g',drawn:=d',toks:=t' }:=by
 obtain⟨m,⟨o,es,ep,ho,r⟩,_⟩:=id I.loc
 obtain⟨sl,hL⟩:=u.any ho I.free fun z=>(hch _ z).2.1 rfl
 exact I.step (ch:=ch) hch (fun b o hL hb hc e n=>u.keep b o e n (fun z=>(List.mem_cons.mp (I.zy b z)).elim hL hb) hc) (fun b o _ _ hc e n=>u.any e n hc) (fun b o hc e n=>u.free b o e n hc) (fun b o hc e=>u.there b o e hc) u.tups u.pD u.pF (fun m' hm=>by
   obtain⟨o',es',ep',ho',r'⟩:=hm
   rw [ho] at ho';cases ho'
   exact⟨_,es',ep',hL,r'⟩) hok hg
theorem Inv.turned {t':Nat}{it:Addr} (I:Inv X pins σ H s) (k:∀ b o,b≠it→s.heap.get? b=some o→h'.get? b=some o) (hn:H it=none) (hL:it≠X.env.locals)
   (h1:it∈X.ex∨X.s₀.heap.objs.size≤it) (h2:∀ x c,X.env.cells.lookup x=some c→c≠it) (h3:∀ p∈X.pn++pins,p.1≠it):Inv X pins σ H { s with heap:=h',toks:=t' }:=by
 have nit:∀ b u,H b=some u→b≠it:=fun b u e z=>by rw [z,hn] at e;cases e
 refine I.step (g':=s.gens) (d':=s.drawn) (ch:=[it]) (fun b hb=>?_) (fun b o _ _ hc e _=>k b o (fun z=>hc (by simp [z])) e) (fun b o _ _ hc e _=>⟨o.slots,k b o (fun z=>hc (by simp [z])) e⟩) (fun _ _ _ _ n=>n)
   (fun b o hc e=>⟨o,k b o (fun z=>hc (by simp [z])) e⟩) (fun _ _ e=>e) (fun _ _ _ e=>e) (fun b ps e=>⟨#[],by rw [e];simp⟩) (fun m hm=>?_) (fun b u e=>?_) I.bare
 · have e:b=it:=by simpa using hb
   subst e
   exact⟨h1,hL,h2,h3⟩
 · obtain⟨o,es,ep,ho,r⟩:=hm
   exact⟨o,es,ep,k _ o (Ne.symm hL) ho,r⟩
 · refine (I.hok b u e).stay (fun c v hc q=>k c v ?_ q) (fun _ q=>q) fun _ _ q=>q
   rcases hc with z | z
   · rw [z];exact nit b u e
   · exact nit c _ z
theorem Inv.tok (I:Inv X pins σ H s) (t:Nat):Inv X pins σ H { s with toks:=t }:=I.un (h':=s.heap) (t':=t) Un.refl I.hok
theorem Inv.kept {t':Nat} (I:Inv X pins σ H s) (k:∀ b u,s.heap.get? b=some u→h'.get? b=some u):Inv X pins σ H { s with heap:=h',toks:=t' }:=I.un (Un.kept k) (I.hok.kept k)
theorem Inv.laid {a:Addr}{o:HO}{t':Nat} (I:Inv X pins σ H s) (k:∀ b u,s.heap.get? b=some u→h'.get? b=some u) (hp:s.heap.objs.size≤a) (new:cI X.prog X.w (upd H a o) h' a o) :
   Inv X pins σ (upd H a o) { s with heap:=h',toks:=t' }:=I.un (Un.laid k hp (I.hok.fresh hp)) (I.hok.laid k hp new)
theorem Inv.write {x e:Addr}{o:HO}{t':Nat} (I:Inv X pins σ H s) (mu:Mut (H x)) (he:e=x∨H e=some (.own x)) (k:∀ b u,b≠e→s.heap.get? b=some u→h'.get? b=some u) (heo:∃ u,h'.get? e=some u)
   (new:cI X.prog X.w (upd H x o) h' x o):Inv X pins σ (upd H x o) { s with heap:=h',toks:=t' }:=I.un (Un.write mu he k heo) (I.hok.write mu he k heo new)
theorem Inv.weak {σ':List (Option V)} (I:Inv X pins σ H s) (hl:σ'.length=σ.length) (w:∀ (i:Nat) v,σ'[i]? = some (some v)→σ[i]? = some (some v)):Inv X pins σ' H s :=
 ⟨I.ok,I.os,I.bare,I.base,let ⟨m,hn,hl'⟩:=I.loc; ⟨m,hn,fun i x v e1 e2 e3=>hl' i x v e1 (w i v e2) e3⟩,I.cell,I.free,I.lA,I.pin,I.hok,hl.trans I.len⟩
theorem Inv.gH {Ew:List (Addr × Obj)} (I:Inv X pins σ H s) (h:∀ p∈Ew,s.heap.get? p.1=some p.2∧H p.1=none∧p.1≠X.env.locals∧p.1∉X.fs∧∀ v,p.2.data≠.cell v):Inv X Ew σ H s :=
 ⟨I.ok,I.os,I.bare,I.base,I.loc,I.cell,I.free,I.lA,fun p hp=>(List.mem_append.mp hp).elim (fun z=>I.pin p (List.mem_append_left _ z)) (h p),I.hok,I.len⟩
theorem MJ {N:List Str} (hN:N.Nodup) {i j:Nat}{x:Str} (a:N[i]? = some x) (b:N[j]? = some x):i=j:=by
 obtain⟨h1,e1⟩:=List.getElem?_eq_some_iff.mp a
 obtain⟨h2,e2⟩:=List.getElem?_eq_some_iff.mp b
 exact (List.getElem_inj hN).mp (e1.trans e2.symm)
theorem zz {M:Model}{A:Around}{E:Value→Shared→Prop}{i:Nat}{x:Str}{v:V}{u:Value}{Q:Unit→Shared→Prop} (I:Inv X pins σ H s) (hN:X.N.Nodup) (hi:X.N[i]? = some x) (hx:Loc X.env.scope x) (r:RelV v u)
   (h:∀ s',Inv X pins (σ.set i (some v)) H s'→(∃ a,Heap.SameBut a s.heap s'.heap∧(a=X.env.locals∨X.env.cells.lookup x=some a))→Q () s') (hf:X.fn x=true∨X.env.scope.names.lookup x=some .local:=by first | exact .inl rfl | exact .inr rfl | assumption):wpAny M A (storeName X.env x u) Q E s:=by
 obtain⟨m,hn,hl⟩:=id I.loc
 have hcls:(X.env.scope.kind == .class || (X.env.scope.kind == .module && X.env.locals != X.env.globals))=false:=by rw [I.ok.kind];rfl
 have afJ:i<σ.length:=by rw [I.len];exact (List.getElem?_eq_some_iff.mp hi).1
 have cne:=I.cne
 have tracked:∀ {a:Addr}{h':Heap},(∃ o,s.heap.get? a=some o∧H a=none)→Heap.SameBut a s.heap h'→rU X.prog X.w H h':=fun {a h'} ha hs b ob e=>by
   obtain⟨_,_,hfree⟩:=ha
   refine (I.hok b ob e).stay (fun c w' hc q=>(hs.2 c ?_).trans q) (fun _ q=>q) fun _ _ q=>q
   rintro rfl
   rcases hc with rfl | hc
   · rw [hfree] at e;cases e
   · rw [hfree] at hc;cases hc
 rcases hx with hk | hk
 · refine wpAny_storeName_local hk hn (fun h' hn' hs=>?_) hcls
   obtain⟨oL,_,_,hoL,_⟩:=id hn
   refine h _ ⟨I.ok,I.os,I.bare,⟨fun b o e n hb hx=>?_,fun b o e n hb hx=>?_,I.base.free,fun b o e hx=>?_,I.base.tups,I.base.pD,I.base.pF⟩,⟨_,hn',fun j y v' e1 e2 e3=>?_⟩,fun y c e=>?_,I.free,I.lA,fun p hp=>?_,tracked ⟨oL,hoL,I.free⟩ hs,by simpa using I.len⟩ ⟨_,hs,.inl rfl⟩
   · exact (hs.2 b (Nat.ne_of_lt (Nat.lt_of_lt_of_le (Heap.lt_size e) I.ok.above))).trans (I.base.keep b o e n hb hx)
   · obtain⟨sl,e1⟩:=I.base.slot b o e n hb hx
     exact⟨sl,(hs.2 b (Nat.ne_of_lt (Nat.lt_of_lt_of_le (Heap.lt_size e) I.ok.above))).trans e1⟩
   · obtain⟨o',e1⟩:=I.base.there b o e hx
     exact⟨o',(hs.2 b (Nat.ne_of_lt (Nat.lt_of_lt_of_le (Heap.lt_size e) I.ok.above))).trans e1⟩
   · by_cases hj:j=i
     · subst hj
       rw [hi] at e1;cases e1
       rw [List.getElem?_set_self afJ] at e2
       cases e2
       exact⟨u,r,.inl ⟨hk,by simp⟩⟩
     · rw [List.getElem?_set_ne (Ne.symm hj)] at e2
       obtain⟨u',r',q⟩:=hl j y v' e1 e2 e3
       refine⟨u',r',?_⟩
       rcases q with ⟨k,e⟩ | ⟨k,c,e,z⟩
       · refine .inl ⟨k,?_⟩
         have:y≠x:=fun e=>hj (MJ hN e1 (e ▸ hi))
         simp [this,e]
       · exact .inr ⟨k,c,e,z.sameBut hs (cne y c e)⟩
   · obtain⟨w',z⟩:=I.cell y c e
     exact⟨w',z.sameBut hs (cne y c e)⟩
   · obtain⟨e,n,ne,nf,d⟩:=I.pin p hp
     exact⟨(hs.2 p.1 ne).trans e,n,ne,nf,d⟩
 · have hfn:X.fn x=true:=by
     rcases hf with z | z
     · exact z
     · rw [z] at hk;cases hk
   obtain⟨c,hc⟩:=I.ok.has x (.inl hk)
   obtain⟨w',z⟩:=I.cell x c hc
   refine wpAny_storeName_cell I.ok.kind hk hc z (fun h' hc' hs=>?_)
   obtain⟨oc,hoc,as5⟩:=id z
   refine h { s with heap:=h' } ⟨I.ok,I.os,I.bare,⟨fun b o e n hb hx=>?_,fun b o e n hb hx=>?_,I.base.free,fun b o e hx=>?_,I.base.tups,I.base.pD,I.base.pF⟩,⟨m,hn.sameBut hs (Ne.symm (cne x c hc)),fun j y v' e1 e2 e3=>?_⟩,fun y c' e=>?_,I.free,I.lA,fun p hp=>?_,tracked ⟨oc,hoc,I.lA x c hc⟩ hs,by simpa using I.len⟩ ⟨c,hs,.inr hc⟩
   · exact (hs.2 b (Nat.ne_of_lt (Nat.lt_of_lt_of_le (Heap.lt_size e) (I.ok.cab x c hfn hc)))).trans (I.base.keep b o e n hb hx)
   · obtain⟨sl,e1⟩:=I.base.slot b o e n hb hx
     exact⟨sl,(hs.2 b (Nat.ne_of_lt (Nat.lt_of_lt_of_le (Heap.lt_size e) (I.ok.cab x c hfn hc)))).trans e1⟩
   · obtain⟨o',e1⟩:=I.base.there b o e hx
     exact⟨o',(hs.2 b (Nat.ne_of_lt (Nat.lt_of_lt_of_le (Heap.lt_size e) (I.ok.cab x c hfn hc)))).trans e1⟩
   · by_cases hj:j=i
     · subst hj
       rw [hi] at e1;cases e1
       rw [List.getElem?_set_self afJ] at e2
       cases e2
       exact⟨u,r,.inr ⟨.inl hk,c,hc,hc'⟩⟩
     · rw [List.getElem?_set_ne (Ne.symm hj)] at e2
       obtain⟨u',r',q⟩:=hl j y v' e1 e2 e3
       refine⟨u',r',?_⟩
       rcases q with q | ⟨k,c',e,z'⟩
       · exact .inl q
       · refine .inr ⟨k,c',e,z'.sameBut hs ?_⟩
         rintro rfl
         exact hj (MJ hN e1 (I.ok.inj _ _ _ e hc ▸ hi))
   · by_cases hcc:c'=c
     · subst hcc;exact⟨_,hc'⟩
     · obtain⟨w2,z2⟩:=I.cell y c' e
       exact⟨w2,z2.sameBut hs hcc⟩
   · obtain⟨e,n,ne,nf,d⟩:=I.pin p hp
     refine⟨(hs.2 p.1 ?_).trans e,n,ne,nf,d⟩
     intro q
     rw [q,hoc] at e
     have q':oc=p.2:=Option.some.inj e
     exact d w' (by rw [← q'];exact as5)
theorem wM {M:Model}{A:Around}{E:Value→Shared→Prop}{i:Nat}{x:Str}{v:V}{u:Value}{Q:Unit→Shared→Prop} (I:Inv X pins σ H s) (hN:X.N.Nodup) (hi:X.N[i]? = some x) (hx:Loc X.env.scope x) (r:RelV v u)
   (h:∀ s',Inv X pins (σ.set i (some v)) H s'→Q () s') (hf:X.fn x=true∨X.env.scope.names.lookup x=some .local:=by first | exact .inl rfl | exact .inr rfl | assumption):wpAny M A (storeName X.env x u) Q E s :=
 zz I hN hi hx r (fun s' I' _=>h s' I') hf
theorem Inv.call' {s':Shared}{ch:List Addr} (I:Inv X pins σ H s) (ho:s'.os=s.os) (u:Un (frs X.stack) ch H H' s.heap s'.heap) (hok:rU X.prog X.w H' s'.heap) (hg:AllBare s'.gens)
   (hch:∀ b∈ch,(b∈X.ex∨X.s₀.heap.objs.size≤b)∧b≠X.env.locals∧(∀ x c,X.env.cells.lookup x=some c→c≠b)∧∀ p∈X.pn++pins,p.1≠b):Inv X pins σ H' s':=by
 obtain⟨h',g',d',t',o'⟩:=s'
 have e:o'=s.os:=ho
 subst e
 exact I.call (g':=g') (t':=t') (d':=d') u hok hg hch
end
abbrev XK:=Value→Option Addr→Hp→Prop
abbrev St:=List (Option V)
abbrev VK:=V→Hp→Prop
abbrev TE:=St→Hp→VK→Prop
abbrev TT:=St→Hp→(Bool→Hp→Prop)→Prop
abbrev TA:=St→Hp→(List V→Hp→Prop)→Prop
structure Ends where
 nx:St→Hp→Prop
 rt:VK
 bk:St→Hp→Prop:=fun _ _=>False
 ct:St→Hp→Prop:=fun _ _=>False
abbrev TS:=Ends→St→Hp→Prop
def EP (X:Cx) (pins:List (Addr × Obj)) (σ:St) (Q:VK) (u:Value) (s':Shared):Prop:=∃ v H',Inv X pins σ H' s'∧RelV v u∧Q v H'
def TP (X:Cx) (pins:List (Addr × Obj)) (σ:St) (Q:Bool→Hp→Prop) (b:Bool) (s':Shared):Prop:=∃ H',Inv X pins σ H' s'∧Q b H'
def AP (X:Cx) (pins:List (Addr × Obj)) (σ:St) (Q:List V→Hp→Prop) (us:List Value) (s':Shared):Prop:=∃ vs H',Inv X pins σ H' s'∧Vals vs us∧Q vs H'
def SP (X:Cx) (pins:List (Addr × Obj)) (D:Ends) (f:Flow) (s':Shared):Prop :=
 match f with
 | .next=>∃ σ' H',Inv X pins σ' H' s'∧D.nx σ' H'
 | .brk=>∃ σ' H',Inv X pins σ' H' s'∧D.bk σ' H'
 | .cont=>∃ σ' H',Inv X pins σ' H' s'∧D.ct σ' H'
 | .ret u=>∃ v σ' H',Inv X pins σ' H' s'∧RelV v u∧D.rt v H'
def PE (X:Cx) (e:Expr) (t:TE):Prop :=
 ∀ (pins:List (Addr × Obj)) (s:Shared) (σ:St) (H:Hp) (Q:VK),Inv X pins σ H s→t σ H Q→wpAny (model X.prog X.w) X.A (eval e X.env) (EP X pins σ Q) X.xe s
def PT (X:Cx) (e:Expr) (t:TT):Prop :=
 ∀ (pins:List (Addr × Obj)) (s:Shared) (σ:St) (H:Hp) (Q:Bool→Hp→Prop),Inv X pins σ H s→t σ H Q→wpAny (model X.prog X.w) X.A (isTrue e X.env (eval e X.env)) (TP X pins σ Q) X.xe s
def PW (X:Cx) (e:Expr) (t:TT):Prop :=
 ∀ (whole:Sem Value) (pins:List (Addr × Obj)) (s:Shared) (σ:St) (H:Hp) (Q:Bool→Hp→Prop),Inv X pins σ H s→t σ H Q→wpAny (model X.prog X.w) X.A (isTrue e X.env whole) (TP X pins σ Q) X.xe s
theorem PW.pt {X:Cx}{e:Expr}{t:TT} (h:PW X e t):PT X e t:=h _
def PA (X:Cx) (es:List Expr) (t:TA):Prop :=
 ∀ (pos:Pos) (pins:List (Addr × Obj)) (s:Shared) (σ:St) (H:Hp) (Q:List V→Hp→Prop),Inv X pins σ H s→t σ H Q→wpAny (model X.prog X.w) X.A (spliced (backTo pos (starEach es X.env))) (AP X pins σ Q) X.xe s
def PS (X:Cx) (st:Stmt) (t:TS):Prop :=
 ∀ (pins:List (Addr × Obj)) (s:Shared) (σ:St) (H:Hp) (D:Ends),Inv X pins σ H s→t D σ H→wpAny (model X.prog X.w) X.A (exec st X.env) (SP X pins D) X.xe s
def m6 (X:Cx) (st:List Stmt) (t:TS):Prop :=
 ∀ (pins:List (Addr × Obj)) (s:Shared) (σ:St) (H:Hp) (D:Ends),Inv X pins σ H s→t D σ H→wpAny (model X.prog X.w) X.A (execs st X.env) (SP X pins D) X.xe s
theorem d9 {α:Type}{t:Sem α}{Q Q':α→Shared→Prop}{M:Model}{A:Around}{E:Value→Shared→Prop}{s:Shared} (h:wpAny M A t Q E s) (hQ:∀ a s,Q a s→Q' a s):wpAny M A t Q' E s:=wpAny_mono h hQ fun _ _ x=>x
end L2
namespace L2
open PySem PySem.Spec PyProof.Rows
section
variable {X:Cx}
def mJ (i:Nat):TE:=fun σ H Q=>∃ v,σ[i]? = some (some v)∧Q v H
def tC (v:V):TE:=fun _ H Q=>Q v H
theorem abN {i:Nat}{x:Str}{pos:Pos} (hN:X.N[i]? = some x) (hv:Vis X.env.scope x) (hd:(x == ("__debug__":Str))=false:=by decide) (hcd:(x == ("__classdict__":Str))=false:=by decide):PE X (.Name x pos) (mJ i):=by
 intro pins s σ H Q I h
 obtain⟨v,e,h⟩:=h
 obtain⟨m,hn,hl⟩:=I.loc
 obtain⟨u,r,l⟩:=hl i x v hN e hv
 have fin:EP X pins σ Q u s:=⟨v,H,I,r,h⟩
 rcases l with ⟨hk,hm⟩ | ⟨hk,c,hc,hcell⟩
 · exact wpAny_Name (wpAny_loadName_local I.ok.kind hk hn hm fin) hd
 · rcases hk with hk | hk
   · exact wpAny_Name (wpAny_loadName_cell I.ok.kind hk hc hcell fin) hd
   · exact wpAny_Name (wpAny_loadName_free I.ok.kind hk hc hcell fin hcd) hd
theorem zF {i j pos}:PE X (.Constant (.int i) j pos) (tC (.int i)):=fun _ _ _ H _ I h=>wpAny_Constant_int ⟨.int i,H,I.tok _,⟨_,rfl⟩,h⟩
theorem xP {b j pos}:PE X (.Constant (.bool b) j pos) (tC (.bl b)):=fun _ _ _ H _ I h=>Constant_bool ⟨.bl b,H,I,rfl,h⟩
theorem yQ {j pos}:PE X (.Constant .none j pos) (tC .non):=fun _ _ _ H _ I h=>Constant_none ⟨.non,H,I,rfl,h⟩
theorem zM {x j pos}:PE X (.Constant (.str x) j pos) (tC (.str x)):=fun _ _ _ H _ I h=>Calls.Constant_str ⟨.str x,H,I.tok _,⟨_,rfl⟩,h⟩
def Gl (X:Cx) (x:Str):Prop:=X.env.kindOf x=some .globalImplicit
theorem qu {E:Value→Shared→Prop}{pins:List (Addr × Obj)}{s:Shared}{σ:St}{H:Hp}{x:Str}{u:Value}{pos:Pos}{Q:Value→Shared→Prop} (I:Inv X pins σ H s) (hg:Gl X x) (hm:X.mg x=some u) (h:Q u s)
   (hd:(x == ("__debug__":Str))=false:=by decide):wpAny (model X.prog X.w) X.A (eval (.Name x pos) X.env) Q E s :=
 Calls.Name_function_global I.ok.kind hg (Calls.loadGlobal_global (by rw [I.ok.glob];exact I.mod.glob.keeps I.bk) hm h) hd
theorem J9 {E:Value→Shared→Prop}{pins:List (Addr × Obj)}{s:Shared}{σ:St}{H:Hp}{x:Str}{u:Value}{pos:Pos}{Q:Value→Shared→Prop} (I:Inv X pins σ H s) (hg:Gl X x) (hm:X.mg x=none) (hv:bootBuiltins x=some u) (h:Q u s)
   (hn:x≠"__name__":=by decide) (hd:(x == ("__debug__":Str))=false:=by decide):wpAny (model X.prog X.w) X.A (eval (.Name x pos) X.env) Q E s:=by
 obtain⟨mb,h1,h2⟩:=I.mod.blt
 exact Calls.Name_function_global I.ok.kind hg (Calls.loadGlobal_builtin (by rw [I.ok.glob];exact I.mod.glob.keeps I.bk) hm (by rw [I.ok.blt];exact h1.keeps I.bk) ((h2 x hn).trans hv) h) hd
theorem Zm {x:Str}{v:V}{u:Value}{pos:Pos} (hg:Gl X x) (hm:X.mg x=some u) (r:RelV v u) (hd:(x == ("__debug__":Str))=false:=by decide):PE X (.Name x pos) (tC v) :=
 fun _ _ _ H _ I h=>qu I hg hm ⟨v,H,I,r,h⟩ hd
theorem yZ {x:Str}{v:V}{u:Value}{pos:Pos} (hg:Gl X x) (hm:X.mg x=none) (hv:bootBuiltins x=some u) (r:RelV v u) (hn:x≠"__name__":=by decide) (hd:(x == ("__debug__":Str))=false:=by decide):PE X (.Name x pos) (tC v) :=
 fun _ _ _ H _ I h=>J9 I hg hm hv ⟨v,H,I,r,h⟩ hn hd
variable {a b:Expr}{ta tb:TE}{pos:Pos}
def PC (X:Cx) (op:CmpOp) (a b:Expr) (t:TE):Prop :=
 ∀ (pins:List (Addr × Obj)) (s:Shared) (σ:St) (H:Hp) (Q:VK),Inv X pins σ H s→t σ H Q →
   wpAny (model X.prog X.w) X.A (eval a X.env) (fun v s₁=>wpAny (model X.prog X.w) X.A (eval b X.env) (fun u s₂=>wpAny (model X.prog X.w) X.A (compareOp op v u) (EP X pins σ Q) X.xe s₂) X.xe s₁) X.xe s
def tB (t:TE):TT:=fun σ H Q=>t σ H fun x H1=>∃ c,x=.bl c∧Q c H1
theorem yO {e:Expr}{t:TE} (h:PE X e t) (he:∀ whole,isTrue e X.env whole=(do let v ← whole;standAt e.pos;holding [v] (truthy v)):=by intro _;rfl):PT X e (tB t):=by
 intro pins s σ H Q I hw
 refine isTrue_plain (d9 (h pins s σ H _ I hw) fun v s1 ⟨x,H1,I1,r1,q1⟩=>?_) (he _)
 obtain⟨d,rfl,q⟩:=q1
 cases r1
 exact wpAny_truthy_bool ⟨H1,I1,q⟩
variable {tA tB':TT}{rest:List Expr}
def T7 (t u:TT):TT:=fun σ H Q=>t σ H fun c H1=>if c=true then u σ H1 Q else Q false H1
def tOr (t u:TT):TT:=fun σ H Q=>t σ H fun c H1=>if c=true then Q true H1 else u σ H1 Q
def as7 (t:TT):TT:=fun σ H Q=>t σ H fun c H1=>Q (!c) H1
theorem yY (ha:PT X a tA):PW X (.BoolOp .And [a] pos) tA:=by
 intro wh pins s σ H Q I h
 refine isTrue_and (d9 (ha pins s σ H Q I h) fun c s1 e=>?_)
 cases c with
 | true=>exact isTrue_and_nil e
 | false=>exact e
theorem vp (ha:PT X a tA):PW X (.BoolOp .Or [a] pos) tA:=by
 intro wh pins s σ H Q I h
 refine isTrue_or (d9 (ha pins s σ H Q I h) fun c s1 e=>?_)
 cases c with
 | false=>exact isTrue_or_nil e
 | true=>exact e
theorem xI (ha:PT X a tA) (hb:PW X (.BoolOp .And (b::rest) pos) tB'):PW X (.BoolOp .And (a::b::rest) pos) (T7 tA tB'):=by
 intro wh pins s σ H Q I h
 refine isTrue_and (d9 (ha pins s σ H _ I h) fun c s1 zq=>?_)
 obtain⟨H1,I1,q1⟩:=zq
 cases c with
 | true=>exact hb wh pins s1 σ H1 Q I1 q1
 | false=>exact⟨H1,I1,q1⟩
theorem Ex (ha:PT X a tA) (hb:PW X (.BoolOp .Or (b::rest) pos) tB'):PW X (.BoolOp .Or (a::b::rest) pos) (tOr tA tB'):=by
 intro wh pins s σ H Q I h
 refine isTrue_or (d9 (ha pins s σ H _ I h) fun c s1 zq=>?_)
 obtain⟨H1,I1,q1⟩:=zq
 cases c with
 | true=>exact⟨H1,I1,q1⟩
 | false=>exact hb wh pins s1 σ H1 Q I1 q1
theorem xT (ha:PT X a tA):PT X (.UnaryOp .Not a pos) (as7 tA):=by
 intro pins s σ H Q I h
 exact isTrue_not (ha pins s σ H (fun c H1=>Q (!c) H1) I h)
def afK (ta tb:TE):TE:=fun σ H Q=>ta σ H fun x H1=>∃ c,x=.bl c∧if c=true then tb σ H1 Q else Q (.bl false) H1
theorem Ka {op}{t:TE} (h:PE X a t):PE X (.BoolOp op [a] pos) t:=fun pins s σ H Q I hw=>BoolOp_one (h pins s σ H Q I hw)
theorem Ey (ha:PE X a ta) (hb:PE X (.BoolOp .And (b::rest) pos) tb):PE X (.BoolOp .And (a::b::rest) pos) (afK ta tb):=by
 intro pins s σ H Q I h
 refine BoolOp_and (d9 (ha pins s σ H _ I h) fun v s1 zq=>?_)
 obtain⟨x,H1,I1,r1,q1⟩:=zq
 obtain⟨c,rfl,q1⟩:=q1
 cases r1
 refine wpAny_truthy_bool ?_
 cases c with
 | true=>exact hb pins s1 σ H1 Q I1 q1
 | false=>exact⟨.bl false,H1,I1,rfl,q1⟩
def tIf (t:TT) (ta tb:TE):TE:=fun σ H Q=>t σ H fun c H1=>if c=true then ta σ H1 Q else tb σ H1 Q
theorem lB {c:Expr} (hc:PT X c tA) (ha:PE X a ta) (hb:PE X b tb):PE X (.IfExp c a b pos) (tIf tA ta tb):=by
 intro pins s σ H Q I h
 refine wpAny_IfExp (d9 (hc pins s σ H _ I h) fun d s1 zq=>?_)
 obtain⟨H1,I1,q1⟩:=zq
 cases d with
 | true=>exact ha pins s1 σ H1 Q I1 q1
 | false=>exact hb pins s1 σ H1 Q I1 q1
end
end L2
namespace L2
open PySem PySem.Spec PyProof.Rows
def bR (K:PySem.W.Frag) (H:Hp) (a:Addr) (xs:List V):Prop :=
 Rd H a (.lst xs) ∨
   ∃ (o:Obj) (its:Array Value) (n:Nat),K.lookup a=some o∧o.cls=.type "list"∧o.dict=none∧o.data=.seq its n∧its.size≤sizeLine∧Vals xs its.toList
def dH (K:PySem.W.Frag) (H:Hp) (a:Addr) (xs:List V):Prop :=
 Rd H a (.tup xs) ∨
   ∃ (o:Obj) (its:Array Value) (n:Nat),K.lookup a=some o∧o.cls=.type "tuple"∧o.data=.seq its n∧its.size≤sizeLine∧Vals xs its.toList
def as8:Value→Option V
 | .none=>some .non
 | .bool b=>some (.bl b)
 | .int i _=>some (.int i)
 | .str x _=>some (.str x)
 | .bytes b _=>some (.Sv b)
 | .float b _=>some (.flt b)
 | .ref a=>some (.ref a)
 | .type n=>some (.ty n)
 | _=>none
theorem RelV.abs {x:V}{u:Value} (r:RelV x u):as8 u=some x:=by
 cases x with
 | non=>cases r;rfl
 | bl _=>cases r;rfl
 | int _=>obtain⟨t,rfl⟩:=r;rfl
 | str _=>obtain⟨t,rfl⟩:=r;rfl
 | Sv _=>obtain⟨t,rfl⟩:=r;rfl
 | flt _=>obtain⟨t,rfl⟩:=r;rfl
 | ref _=>cases r;rfl
 | ty _=>cases r;rfl
theorem RelV.inj {x y:V}{u:Value} (r:RelV x u) (q:RelV y u):x=y:=Option.some.inj (r.abs.symm.trans q.abs)
theorem Vals.inj:∀ {xs ys:List V}{us:List Value},Vals xs us→Vals ys us→xs=ys
 | _,_,_,.nil,.nil=>rfl
 | _,_,_,.cons r t,.cons r' t'=>by rw [r.inj r',Vals.inj t t']
section
variable {X:Cx}{pins:List (Addr × Obj)}{σ:St}{H:Hp}{s:Shared}{a:Addr}{xs ys:List V}
theorem bR.of {K:PySem.W.Frag} (h:H a=some (.lst xs)):bR K H a xs:=.inl (.inl h)
theorem dH.of {K:PySem.W.Frag} (h:H a=some (.tup xs)):dH K H a xs:=.inl (.inl h)
theorem Inv.list (I:Inv X pins σ H s) (h:bR X.K H a xs):∃ its:List Value,Vals xs its∧PlainL s.heap a its.toArray∧xs.length≤sizeLine:=by
 rcases h with h | ⟨o,its,n,hk,hc,hd,hs,hz,r⟩
 · obtain⟨z,its,n,r,e⟩:=h.ok I.hok
   exact⟨its,r,⟨_,n,e,rfl,rfl,rfl⟩,z⟩
 · refine⟨its.toList,r,⟨o,n,I.Dd a o hk,hc,hd,by simpa using hs⟩,?_⟩
   have e:=r.length
   simp only [Array.length_toList] at e
   omega
theorem Inv.tuple (I:Inv X pins σ H s) (h:dH X.K H a xs):∃ its:List Value,Vals xs its∧IsTup s.heap a its.toArray∧xs.length≤sizeLine:=by
 rcases h with h | ⟨o,its,n,hk,hc,hs,hz,r⟩
 · obtain⟨z,its,r,p⟩:=h.ok I.hok
   exact⟨its,r,p,z⟩
 · refine⟨its.toList,r,⟨o,I.Dd a o hk,hc,n,by simpa using hs⟩,?_⟩
   have e:=r.length
   simp only [Array.length_toList] at e
   omega
theorem Inv.Vt (I:Inv X pins σ H s) (h:bR X.K H a xs) (h':bR X.K H a ys):xs=ys:=by
 obtain⟨its,r,⟨o,n,e,_,_,d⟩,_⟩:=I.list h
 obtain⟨its',r',⟨o',n',e',_,_,d'⟩,_⟩:=I.list h'
 rw [e] at e';cases e'
 rw [d] at d'
 injection d' with d1 _
 have:its=its':=by simpa using congrArg Array.toList d1
 subst this
 exact r.inj r'
theorem Inv.T8 (I:Inv X pins σ H s) (h:dH X.K H a xs) (h':dH X.K H a ys):xs=ys:=by
 obtain⟨its,r,⟨o,e,_,n,d⟩,_⟩:=I.tuple h
 obtain⟨its',r',⟨o',e',_,n',d'⟩,_⟩:=I.tuple h'
 rw [e] at e';cases e'
 rw [d] at d'
 injection d' with d1 _
 have:its=its':=by simpa using congrArg Array.toList d1
 subst this
 exact r.inj r'
end
abbrev Cx.wish (X:Cx) (E:Value→Shared→Prop):Cx:={ X with xe:=E }
abbrev Cx.Ej (X:Cx):Cx:=X.wish fun _ _=>False
theorem Cx.Ok.wish {X:Cx} (ok:X.Ok) (E:Value→Shared→Prop):(X.wish E).Ok :=
 ⟨ok.mod,ok.kind,ok.glob,ok.blt,ok.above,ok.inj,ok.has,ok.cab,ok.hd,ok.frames,ok.stk,ok.exf,ok.bs,ok.T6,ok.Vr,ok.Zj,ok.rW,ok.Vs⟩
theorem Cx.Ok.lM {X:Cx}{E:Value→Shared→Prop} (ok:(X.wish E).Ok):X.Ok :=
 ⟨ok.mod,ok.kind,ok.glob,ok.blt,ok.above,ok.inj,ok.has,ok.cab,ok.hd,ok.frames,ok.stk,ok.exf,ok.bs,ok.T6,ok.Vr,ok.Zj,ok.rW,ok.Vs⟩
section
variable {X:Cx}{pins:List (Addr × Obj)}{σ:St}{H:Hp}{s:Shared}{E:Value→Shared→Prop}
theorem Inv.wish (I:Inv X pins σ H s) (E:Value→Shared→Prop):Inv (X.wish E) pins σ H s:=⟨I.ok.wish E,I.os,I.bare,I.base,I.loc,I.cell,I.free,I.lA,I.pin,I.hok,I.len⟩
theorem Inv.lM (I:Inv (X.wish E) pins σ H s):Inv X pins σ H s:=⟨I.ok.lM,I.os,I.bare,I.base,I.loc,I.cell,I.free,I.lA,I.pin,I.hok,I.len⟩
theorem SP.lM {D:Ends}{f:Flow}{s':Shared} (h:SP (X.wish E) pins D f s'):SP X pins D f s':=by
 cases f with
 | next=>obtain⟨σ',H',I,q⟩:=h;exact⟨σ',H',I.lM,q⟩
 | brk=>obtain⟨σ',H',I,q⟩:=h;exact⟨σ',H',I.lM,q⟩
 | cont=>obtain⟨σ',H',I,q⟩:=h;exact⟨σ',H',I.lM,q⟩
 | ret u=>obtain⟨v,σ',H',I,r,q⟩:=h;exact⟨v,σ',H',I.lM,r,q⟩
theorem PE.Ej {e:Expr}{t:TE} (h:PE X.Ej e t):PE X e t:=fun pins s σ H Q I hw =>
 wpAny_mono (h pins s σ H Q (I.wish _) hw) (fun _ _ ⟨v,H',I',r,q⟩=>⟨v,H',I'.lM,r,q⟩) fun _ _ z=>False.elim z
theorem PT.Ej {e:Expr}{t:TT} (h:PT X.Ej e t):PT X e t:=fun pins s σ H Q I hw =>
 wpAny_mono (h pins s σ H Q (I.wish _) hw) (fun _ _ ⟨H',I',q⟩=>⟨H',I'.lM,q⟩) fun _ _ z=>False.elim z
theorem m6.Ej {st:List Stmt}{t:TS} (h:m6 X.Ej st t):m6 X st t:=fun pins s σ H D I hw =>
 wpAny_mono (h pins s σ H D (I.wish _) hw) (fun _ _ q=>q.lM) fun _ _ z=>False.elim z
end
section
variable {X:Cx}{st:Stmt}{rest:List Stmt}{t u:TS}{e:Expr}{te:TE}{pos:Pos}
def Vu:TS:=fun D σ H=>D.nx σ H
def Zn (t u:TS):TS:=fun D σ H=>t { D with nx:=u D } σ H
theorem zP:m6 X [] Vu:=fun _ _ σ H _ I h=>wpAny_execs_nil ⟨σ,H,I,h⟩
theorem zC (h1:PS X st t) (h2:m6 X rest u):m6 X (st::rest) (Zn t u):=by
 intro pins s σ H D I h
 refine wpAny_execs_cons (d9 (h1 pins s σ H { D with nx:=u D } I h) fun f s1 q=>?_)
 cases f with
 | next =>
   obtain⟨σ',H',I',q⟩:=q
   exact h2 pins s1 σ' H' D I' q
 | ret v=>exact q
 | brk=>exact q
 | cont=>exact q
theorem zE (h1:PS X st t):m6 X [st] t:=by
 intro pins s σ H D I h
 refine wpAny_execs_cons (d9 (h1 pins s σ H D I h) fun f s1 q=>?_)
 cases f with
 | next=>exact wpAny_execs_nil q
 | ret v=>exact q
 | brk=>exact q
 | cont=>exact q
theorem Inv.quiet {pins:List (Addr × Obj)}{σ:St}{H:Hp}{s:Shared} (I:Inv X pins σ H s):interactive X.env=false:=by simp [interactive,I.ok.kind]
def afL (te:TE):TS:=fun D σ H=>te σ H fun _ H1=>D.nx σ H1
theorem yG (he:PE X e te) (hs:swapsWith e none pos.line X.env=pure false:=by rfl):PS X (.Expr e pos) (afL te):=by
 intro pins s σ H D I h
 exact wpAny_Expr_any (d9 (he pins s σ H _ I h) fun v s1 ⟨x,H1,I1,r1,q1⟩=>⟨σ,H1,I1,q1⟩) I.quiet hs
def Zo (te:TE):TS:=fun D σ H=>te σ H D.rt
theorem zK (he:PE X e te):PS X (.Return (some e) pos) (Zo te):=by
 intro pins s σ H D I h
 exact wpAny_Return_some (d9 (he pins s σ H _ I h) fun v s1 ⟨x,H1,I1,r1,q1⟩=>⟨x,σ,H1,I1,r1,q1⟩)
def afM:TS:=fun D _ H=>D.rt .non H
theorem Zq:PS X (.Return none pos) afM:=fun _ _ σ H _ I h=>wpAny_Return_none ⟨.non,σ,H,I,rfl,h⟩
def abO (c:TT) (t u:TS):TS:=fun D σ H=>c σ H fun b H1=>if b=true then t D σ H1 else u D σ H1
theorem zZ {c:Expr}{a b:List Stmt}{tc:TT} (hc:PT X c tc) (ha:m6 X a t) (hb:m6 X b u):PS X (.If c a b pos) (abO tc t u):=by
 intro pins s σ H D I h
 refine wpAny_If (d9 (hc pins s σ H _ I h) fun d s1 zq=>?_)
 obtain⟨H1,I1,q1⟩:=zq
 cases d with
 | true=>exact ha pins s1 σ H1 D I1 q1
 | false=>exact hb pins s1 σ H1 D I1 q1
end
abbrev TG:=V→St→Hp→(St→Hp→Prop)→Prop
abbrev TGs:=List V→St→Hp→(St→Hp→Prop)→Prop
def PG (X:Cx) (target:Expr) (t:TG):Prop :=
 ∀ (pins:List (Addr × Obj)) (s:Shared) (σ:St) (H:Hp) (v:V) (u:Value) (Q:St→Hp→Prop),Inv X pins σ H s→RelV v u→t v σ H Q →
   wpAny (model X.prog X.w) X.A (assign target X.env u) (fun _ s'=>∃ σ' H',Inv X pins σ' H' s'∧Q σ' H') X.xe s
def uC (X:Cx) (ts:List Expr) (t:TGs):Prop :=
 ∀ (pins:List (Addr × Obj)) (s:Shared) (σ:St) (H:Hp) (vs:List V) (us:List Value) (Q:St→Hp→Prop),Inv X pins σ H s→Vals vs us→t vs σ H Q →
   wpAny (model X.prog X.w) X.A (assignInOrder ((assignEach ts X.env).map (·.2)) us) (fun _ s'=>∃ σ' H',Inv X pins σ' H' s'∧Q σ' H') X.xe s
abbrev as9:=V→V→V→Hp→(Hp→Prop)→Prop
def ji (X:Cx) (t:as9):Prop :=
 ∀ (pins:List (Addr × Obj)) (s:Shared) (σ:St) (H:Hp) (o i v:V) (ov iv u:Value) (Q:Hp→Prop),Inv X pins σ H s→RelV o ov→RelV i iv→RelV v u→t o i v H Q →
   wpAny (model X.prog X.w) X.A (setItem ov iv u) (fun _ s'=>∃ H',Inv X pins σ H' s'∧Q H') X.xe s
abbrev TIp:=V→V→Hp→VK→Prop
def PIp (X:Cx) (op:Operator) (t:TIp):Prop :=
 ∀ (pins:List (Addr × Obj)) (s:Shared) (σ:St) (H:Hp) (x y:V) (v u:Value) (Q:VK),Inv X pins σ H s→RelV x v→RelV y u→t x y H Q →
   wpAny (model X.prog X.w) X.A (inplaceOp op v u) (EP X pins σ Q) X.xe s
section
variable {X:Cx}{pos:Pos}
def bU (i:Nat):TG:=fun v σ H Q=>Q (σ.set i (some v)) H
theorem yP {i:Nat}{x:Str} (hN:X.N.Nodup) (hi:X.N[i]? = some x) (hx:Loc X.env.scope x) (hf:X.fn x=true∨X.env.scope.names.lookup x=some .local:=by first | exact .inl rfl | exact .inr rfl | assumption):PG X (.Name x pos) (bU i):=by
 intro pins s σ H v u Q I r h
 exact wpAny_assign_Name (wM I hN hi hx r (fun s' I'=>⟨_,H,I',h⟩) hf)
def afN:TGs:=fun vs σ H Q=>vs=[]∧Q σ H
def Vv (t:TG) (u:TGs):TGs:=fun vs σ H Q=>∃ v r,vs=v::r∧t v σ H fun σ' H'=>u r σ' H' Q
theorem Ek:uC X [] afN:=by
 intro pins s σ H vs us Q I r h
 obtain⟨e,h⟩:=h
 subst e
 cases r
 exact assignInOrder_nil ⟨σ,H,I,h⟩
theorem xN {e:Expr}{es:List Expr}{t:TG}{u:TGs} (h1:PG X e t) (h2:uC X es u)
   (hs:(assignEach (e::es) X.env).map (·.2)=assign e X.env::(assignEach es X.env).map (·.2):=by rfl):uC X (e::es) (Vv t u):=by
 intro pins s σ H vs us Q I r h
 obtain⟨v,vr,e1,h⟩:=h
 subst e1
 cases r with
 | cons r rr =>
   rw [hs]
   refine assignInOrder_cons (d9 (h1 pins s σ H _ _ _ I r h) fun _ s1 zq=>?_)
   obtain⟨σ1,H1,I1,q1⟩:=zq
   exact h2 pins s1 σ1 H1 _ _ Q I1 rr q1
def afO (K:PySem.W.Frag) (n:Nat) (t:TGs):TG:=fun v σ H Q=>∃ a xs,v=.ref a∧dH K H a xs∧xs.length=n∧t xs σ H Q
theorem Kc {es:List Expr}{k:Nat}{t:TGs}{n:Nat} (hc:X.calm=true) (h:uC X es t)
   (hn:(assignEach es X.env).length=n:=by rfl) (hst:(assignEach es X.env).findIdx? (·.1)=none:=by rfl):PG X (.Tuple es k pos) (afO X.K n t):=by
 intro pins s σ H v u Q I r hw
 obtain⟨a,xs,e1,hq,hl,hw⟩:=hw
 subst e1
 cases r
 obtain⟨its,rv,ht,hz⟩:=I.tuple hq
 refine assign_Tuple_tuple (I.ok.hd hc) ht (by simp [hn,← hl,rv.length]) hst fun h' hx=>?_
 have I1:Inv X pins σ H { s with heap:=h' }:=I.kept (t':=s.toks) fun b o e=>hx b o (Nat.ne_of_lt (Heap.lt_size e)) e
 exact h pins _ σ H xs _ Q I1 (by simpa using rv) hw
def T9 (te:TE) (g:TG):TS:=fun D σ H=>te σ H fun x H1=>g x σ H1 D.nx
theorem abQ {tg e:Expr}{te:TE}{g:TG} (he:PE X e te) (hg:PG X tg g) (hs:swapsWithSole [tg] e pos.line X.env=pure false:=by rfl) (hw:swappedStores [tg] e X.env=pure none:=by rfl)
   (h1:(assignEach [tg] X.env).map (·.2)=[assign tg X.env]:=by rfl):PS X (.Assign [tg] e pos) (T9 te g):=by
 intro pins s σ H D I h
 refine wpAny_Assign_stores (d9 (he pins s σ H _ I h) fun v s1 ⟨x,H1,I1,r1,q1⟩=>?_) hs hw
 rw [h1]
 exact d9 (hg pins s1 σ H1 x v _ I1 r1 q1) fun _ s2 q=>q
theorem zT {i:Nat}{x:Str}{e:Expr}{te:TE}{pos':Pos} (hN:X.N.Nodup) (hi:X.N[i]? = some x) (hx:Loc X.env.scope x) (he:PE X e te) (hs:swapsWith e (some (.Name x pos')) pos.line X.env=pure false:=by rfl) (hf:X.fn x=true∨X.env.scope.names.lookup x=some .local:=by first | exact .inl rfl | exact .inr rfl | assumption) :
   PS X (.Assign [.Name x pos'] e pos) (T9 te (bU i)):=by
 intro pins s σ H D I h
 refine wpAny_Assign_Name (d9 (he pins s σ H _ I h) fun v s1 ⟨y,H1,I1,r1,q1⟩=>?_) hs
 exact wM I1 hN hi hx r1 (fun s2 I2=>⟨_,H1,I2,q1⟩) hf
def atb (i:Nat) (te:TE) (ti:TIp):TS:=fun D σ H=>∃ x,σ[i]? = some (some x)∧te σ H fun y H1=>ti x y H1 fun z H2=>D.nx (σ.set i (some z)) H2
theorem Vw {i:Nat}{x:Str}{e:Expr}{te:TE}{op:Operator}{ti:TIp}{pos':Pos} (hN:X.N.Nodup) (hi:X.N[i]? = some x) (hx:Loc X.env.scope x) (he:PE X e te) (ho:PIp X op ti) (hf:X.fn x=true∨X.env.scope.names.lookup x=some .local:=by first | exact .inl rfl | exact .inr rfl | assumption) :
   PS X (.AugAssign (.Name x pos') op e pos) (atb i te ti):=by
 intro pins s σ H D I h
 obtain⟨v,e1,h⟩:=h
 obtain⟨m,hn,hl⟩:=I.loc
 have vis:Vis X.env.scope x:=by rcases hx with k | k;exact .inl k;exact .inr (.inl k)
 obtain⟨u,r,l⟩:=hl i x v hi e1 vis
 refine wpAny_AugAssign_Name ?_
 have go:wpAny (model X.prog X.w) X.A (eval e X.env) (fun w s₂=>wpAny (model X.prog X.w) X.A (inplaceOp op u w) (fun r s₃=>wpAny (model X.prog X.w) X.A (storeName X.env x r) (fun _=>SP X pins D .next) X.xe s₃) X.xe s₂) X.xe s:=by
   refine d9 (he pins s σ H _ I h) fun w s1 zq=>?_
   obtain⟨y,H1,I1,r1,q1⟩:=zq
   refine d9 (ho pins s1 σ H1 v y u w _ I1 r r1 q1) fun z s2 zq=>?_
   obtain⟨zv,H2,I2,r2,q2⟩:=zq
   exact wM I2 hN hi hx r2 (fun s3 I3=>⟨_,H2,I3,q2⟩) hf
 rcases l with ⟨hk,hm⟩ | ⟨hk,c,hc,hcell⟩
 · exact wpAny_loadName_local I.ok.kind hk hn hm go
 · rcases hk with hk | hk
   · exact wpAny_loadName_cell I.ok.kind hk hc hcell go
   · rcases hx with k | k
     · have:X.env.scope.names.lookup x=some .free:=hk
       rw [k] at this;cases this
     · have:X.env.scope.names.lookup x=some .free:=hk
       rw [k] at this;cases this
end
section
variable {X:Cx}{pos:Pos}
def Vx (c:TT) (tb:TS):TS:=fun D σ H=>∃ W:Nat→St→Hp→Prop,(∃ m,W m σ H)∧∀ m σ H,W m σ H →
 c σ H fun b H1=>if b=true then ∃ N:St→Hp→Prop,(∀ σ' H',N σ' H'→∃ m',m'<m∧W m' σ' H')∧tb { D with nx:=N,ct:=N,bk:=D.nx } σ H1 else D.nx σ H1
theorem Vy {c:Expr}{body:List Stmt}{tc:TT}{tb:TS} (hp:PassesOwn (model X.prog X.w) X.A X.env X.xe) (hc:PT X c tc) (hb:m6 X body tb):PS X (.While c body [] pos) (Vx tc tb):=by
 intro pins s σ H D I h
 obtain⟨W,⟨m0,w0⟩,turn⟩:=h
 refine wpAny_While (codeAny_whileLoop (fun n s'=>∃ σ' H',Inv X pins σ' H' s'∧W n σ' H') ?_ m0 ⟨σ,H,I,w0⟩)
 rintro n s1 ⟨σ1,H1,I1,w1⟩
 refine wpAny_passesOwn hp (d9 (hc pins s1 σ1 H1 _ I1 (turn n σ1 H1 w1)) fun b s2 zq=>?_)
 obtain⟨H2,I2,q2⟩:=zq
 cases b with
 | true =>
   obtain⟨N,hN,q2⟩:=q2
   rw [if_pos rfl]
   refine wpAny_passesOwn hp (d9 (hb pins s2 σ1 H2 _ I2 q2) fun f s3 q3=>?_)
   cases f with
   | next =>
     obtain⟨σ3,H3,I3,n3⟩:=q3
     obtain⟨m',hm,w3⟩:=hN σ3 H3 n3
     exact⟨m',hm,σ3,H3,I3,w3⟩
   | cont =>
     obtain⟨σ3,H3,I3,n3⟩:=q3
     obtain⟨m',hm,w3⟩:=hN σ3 H3 n3
     exact⟨m',hm,σ3,H3,I3,w3⟩
   | brk=>exact q3
   | ret v=>exact q3
 | false =>
   rw [if_neg Bool.false_ne_true]
   exact wpAny_execs_nil ⟨σ1,H2,I2,q2⟩
end
structure It where
 go:Nat→Hp→Prop
 PJ:Nat→Hp→V→Hp→Prop
 stop:Nat→Hp→Prop
def mK (X:Cx) (pins:List (Addr × Obj)) (H:Hp) (b:Addr):Prop :=
 H b=none∧b≠X.env.locals∧b∉X.fs∧(b∈X.ex∨X.s₀.heap.objs.size≤b)∧(∀ x c,X.env.cells.lookup x=some c→c≠b)∧∀ p∈X.pn++pins,p.1≠b
theorem Inv.MK {X:Cx}{pins:List (Addr × Obj)}{σ:St}{H H':Hp}{s:Shared}{b:Addr} (I:Inv X pins σ H s) (hb:s.heap.objs.size≤b) (hn:H' b=none):mK X pins H' b:=by
 refine⟨hn,Nat.ne_of_gt (Nat.lt_of_lt_of_le I.lt hb),I.Zk hb,.inr (Nat.le_trans I.sz hb),fun x c e z=>?_,fun p hp z=>?_⟩
 · obtain⟨v,q⟩:=I.cell x c e
   exact absurd (Nat.lt_of_lt_of_le q.lt (by rw [z];exact hb)) (Nat.lt_irrefl _)
 · exact absurd (Nat.lt_of_lt_of_le (Heap.lt_size (I.pin p hp).1) (by rw [z];exact hb)) (Nat.lt_irrefl _)
structure Turn (P:Program) (w:World) (K:PySem.W.Frag) (tg:Expr) (J:It) (fp:List Addr) (it:Addr) (tn:Nat→Heap→Prop):Prop where
 mem:it∈fp
 obj:∀ i h,tn i h→∀ b∈fp,∃ o,h.get? b=some o∧∀ v,o.data≠.cell v
 keep:∀ i h h',tn i h→(∀ b∈fp,∀ o,h.get? b=some o→h'.get? b=some o)→tn i h'
 item:∀ (X:Cx),X.prog=P→X.w=w→X.K=K→X.calm=true→∀ (i:Nat) (pins:List (Addr × Obj)) (s:Shared) (σ:St) (H:Hp) (E:Value→Shared→Prop),Inv X pins σ H s→(∀ b∈fp,mK X pins H b)→tn i s.heap→J.go i H →
   wpAny (model P w) X.A (pyNext (.ref it)) (fun r s1=>∃ u,r=some u ∧
     wpAny (model P w) X.A (letOwnedTupleGo tg (.ref it) u) (fun _ s2=>∃ x H',Inv X pins σ H' s2∧RelV x u∧J.PJ i H x H'∧tn (i+1) s2.heap∧∀ b∈fp,H' b=none) E s1) E s
 done:∀ (X:Cx),X.prog=P→X.w=w→X.K=K→X.calm=true→∀ (i:Nat) (pins:List (Addr × Obj)) (s:Shared) (σ:St) (H:Hp) (E:Value→Shared→Prop),Inv X pins σ H s→(∀ b∈fp,mK X pins H b)→tn i s.heap→J.stop i H →
   wpAny (model P w) X.A (pyNext (.ref it)) (fun r s1=>r=none∧Inv X pins σ H s1) E s
 self:∀ (A:Around) (i:Nat) (s:Shared) (Q:Value→Shared→Prop) (E:Value→Shared→Prop),tn i s.heap→Q (.ref it) s→wpAny (model P w) A (pyIter (.ref it)) Q E s
abbrev TI:=St→Hp→(It→Hp→Prop)→Prop
def PIE (X:Cx) (pins:List (Addr × Obj)) (σ:St) (tg:Expr) (R:It→Hp→Prop) (itv:Value) (s2:Shared):Prop :=
 ∃ (it:Addr) (fp:List Addr) (tn:Nat→Heap→Prop) (J:It) (H':Hp),itv=.ref it∧Inv X pins σ H' s2∧Turn X.prog X.w X.K tg J fp it tn∧tn 0 s2.heap∧(∀ b∈fp,mK X pins H' b)∧R J H'
def PI (X:Cx) (tg iter:Expr) (wi:TI):Prop :=
 ∀ (pins:List (Addr × Obj)) (s:Shared) (σ:St) (H:Hp) (R:It→Hp→Prop),Inv X pins σ H s→wi σ H R →
   wpAny (model X.prog X.w) X.A (eval iter X.env) (fun v s1=>wpAny (model X.prog X.w) X.A (pyIter v) (PIE X pins σ tg R) X.xe s1) X.xe s
theorem Vz {M:Model}{A:Around}{E:Value→Shared→Prop}{s:Shared}{tg:Expr}{it:Addr}{u:Value}{o:Obj}{n:String}{vs:Array Value}{Q:Unit→Shared→Prop} (ho:s.heap.get? it=some o) (hc:o.cls=.type n) (hd:o.data=.fields vs)
   (hn:["enumerate","zip","dict_itemiterator","dict_reverseitemiterator","odict_iterator","itertools.zip_longest","itertools.pairwise"].contains n=false) (hQ:Q () s):wpAny M A (letOwnedTupleGo tg (.ref it) u) Q E s:=by
 unfold letOwnedTupleGo
 cases tg <;> first
   | exact wpAny_pure hQ
   | (cases u <;> first
       | exact wpAny_pure hQ
       | (refine wpAny_bind (wpAny_load ho ?_)
          rw [hc,hd]
          show wpAny M A (if (["enumerate","zip","dict_itemiterator","dict_reverseitemiterator","odict_iterator","itertools.zip_longest","itertools.pairwise"].contains n && vs[0]? == some (rawInt _))=true then _ else _) Q E s
          rw [if_neg (by intro h;rw [hn,Bool.false_and] at h;cases h)]
          exact wpAny_pure hQ))
def Vj (K:PySem.W.Frag) (a:Addr):It :=
 ⟨fun i H=>∃ xs x,bR K H a xs∧xs[i]? = some x,fun i H x H'=>H'=H∧∀ xs,bR K H a xs→xs[i]? = some x,fun i H=>∃ xs,bR K H a xs∧xs.length≤i⟩
def Itt (K:PySem.W.Frag) (a:Addr):It :=
 ⟨fun i H=>∃ xs x,dH K H a xs∧xs[i]? = some x,fun i H x H'=>H'=H∧∀ xs,dH K H a xs→xs[i]? = some x,fun i H=>∃ xs,dH K H a xs∧xs.length≤i⟩
def Itr (lo:Int) (n:Nat):It:=⟨fun i _=>i<n,fun i H x H'=>H'=H∧x=.int (lo+i),fun i _=>n≤i⟩
theorem Ua {P:Program}{w:World}{K:PySem.W.Frag}{tg:Expr} (a it:Addr):Turn P w K tg (Vj K a) [it] it (fun i h=>h.IsListIter it a i) where
 mem:=by simp
 obj:=fun i h st b hb=>by
   have e:b=it:=by simpa using hb
   subst e
   obtain⟨o,e,c,d⟩:=st
   exact⟨o,e,fun v z=>by rw [d] at z;cases z⟩
 keep:=fun i h h' st k=>st.at fun o e=>k it (by simp) o e
 item:=by
   intro X hP hw hK hc i pins s σ H E I hf st hg
   subst hP hw hK
   obtain⟨xs,x,hq,hx⟩:=hg
   obtain⟨its,rv,p,hz⟩:=I.list hq
   obtain⟨u,hu,ru⟩:=rv.get hx
   obtain⟨f0,f1,f2,f3,f4,f5⟩:=hf it (by simp)
   refine wpAny_pyNext_list_item st p.isList (x:=u) (by simpa using hu) fun h' st' sb=>?_
   have I1:Inv X pins σ H { s with heap:=h' }:=I.turned (t':=s.toks) (fun b o hb e=>(sb.2 b hb).trans e) f0 f1 f3 f4 f5
   obtain⟨o,e,c,d⟩:=id st'
   exact⟨u,rfl,Vz (s:={ s with heap:=h' }) e c d (by decide) ⟨x,H,I1,ru,⟨rfl,fun ys hy=>by rw [I.Vt hy hq];exact hx⟩,st',fun b hb=>(hf b hb).1⟩⟩
 done:=by
   intro X hP hw hK hc i pins s σ H E I hf st hg
   subst hP hw hK
   obtain⟨xs,hq,hx⟩:=hg
   obtain⟨its,rv,p,hz⟩:=I.list hq
   obtain⟨f0,f1,f2,f3,f4,f5⟩:=hf it (by simp)
   have hl:=rv.length
   exact wpAny_pyNext_list_end (I.ok.hd hc) st p.isList (by simp;omega) fun h' eb=>⟨rfl,I.turned (t':=s.toks) (fun b o hb e=>eb b o hb e) f0 f1 f3 f4 f5⟩
 self:=fun _ _ _ _ _ st h=>wpAny_pyIter_listiter st h
theorem P0 {P:Program}{w:World}{K:PySem.W.Frag}{tg:Expr} (a it:Addr):Turn P w K tg (Itt K a) [it] it (fun i h=>h.IsTupleIter it a i) where
 mem:=by simp
 obj:=fun i h st b hb=>by
   have e:b=it:=by simpa using hb
   subst e
   obtain⟨o,e,c,d⟩:=st
   exact⟨o,e,fun v z=>by rw [d] at z;cases z⟩
 keep:=fun i h h' st k=>st.at fun o e=>k it (by simp) o e
 item:=by
   intro X hP hw hK hc i pins s σ H E I hf st hg
   subst hP hw hK
   obtain⟨xs,x,hq,hx⟩:=hg
   obtain⟨its,rv,p,hz⟩:=I.tuple hq
   obtain⟨u,hu,ru⟩:=rv.get hx
   obtain⟨f0,f1,f2,f3,f4,f5⟩:=hf it (by simp)
   refine wpAny_pyNext_tuple_item st (show s.heap.IsTuple a its.toArray from p) (x:=u) (by simpa using hu) fun h' st' sb=>?_
   have I1:Inv X pins σ H { s with heap:=h' }:=I.turned (t':=s.toks) (fun b o hb e=>(sb.2 b hb).trans e) f0 f1 f3 f4 f5
   obtain⟨o,e,c,d⟩:=id st'
   exact⟨u,rfl,Vz (s:={ s with heap:=h' }) e c d (by decide) ⟨x,H,I1,ru,⟨rfl,fun ys hy=>by rw [I.T8 hy hq];exact hx⟩,st',fun b hb=>(hf b hb).1⟩⟩
 done:=by
   intro X hP hw hK hc i pins s σ H E I hf st hg
   subst hP hw hK
   obtain⟨xs,hq,hx⟩:=hg
   obtain⟨its,rv,p,hz⟩:=I.tuple hq
   obtain⟨f0,f1,f2,f3,f4,f5⟩:=hf it (by simp)
   have hl:=rv.length
   exact wpAny_pyNext_tuple_end (I.ok.hd hc) st (show s.heap.IsTuple a its.toArray from p) (by simp;omega) fun h' eb=>⟨rfl,I.turned (t':=s.toks) (fun b o hb e=>eb b o hb e) f0 f1 f3 f4 f5⟩
 self:=fun _ _ _ _ _ st h=>wpAny_pyIter_tupleiter st h
theorem Qa {P:Program}{w:World}{K:PySem.W.Frag}{tg:Expr} (it:Addr) (lo:Int) (n:Nat):Turn P w K tg (Itr lo n) [it] it (fun i h=>IsRangeIter h it (lo+(i:Nat)*1) ((n:Int) - (i:Nat)) 1) where
 mem:=by simp
 obj:=fun i h st b hb=>by
   have e:b=it:=by simpa using hb
   subst e
   exact⟨_,st,fun v z=>by
     have z':Data.fields _=Data.cell v:=z
     cases z'⟩
 keep:=fun i h h' st k=>k it (by simp) _ st
 item:=by
   intro X hP hw hK hc i pins s σ H E I hf st hg
   subst hP hw hK
   obtain⟨f0,f1,f2,f3,f4,f5⟩:=hf it (by simp)
   have W:=Walks.range (prog:=X.prog) (w:=X.w) (I.ok.hd hc) it lo 1 n
   refine W.item i s _ _ hg st fun v h' tk hv st' kk=>?_
   obtain⟨t,rfl⟩:=hv
   have I1:Inv X pins σ H { s with heap:=h',toks:=tk }:=I.turned (fun b o hb e=>kk b o (by simpa using hb) e) f0 f1 f3 f4 f5
   refine⟨_,rfl,Vz (s:={ s with heap:=h',toks:=tk }) (n:="range_iterator") st' rfl rfl (by decide) ⟨.int (lo+i),H,I1,⟨t,?_⟩,⟨rfl,rfl⟩,st',fun b hb=>(hf b hb).1⟩⟩
   rw [Int.mul_one]
 done:=by
   intro X hP hw hK hc i pins s σ H E I hf st hg
   subst hP hw hK
   obtain⟨f0,f1,f2,f3,f4,f5⟩:=hf it (by simp)
   exact wpAny_pyNext_range_end (I.ok.hd hc) st (by have:n≤i:=hg;omega) fun h' eb=>⟨rfl,I.turned (t':=s.toks) (fun b o hb e=>eb b o hb e) f0 f1 f3 f4 f5⟩
 self:=fun _ _ _ _ _ st h=>wpAny_pyIter_rangeiter st h
end L2
namespace L2
open PySem PySem.Spec PyProof.Rows
section
variable {X:Cx}{tg:Expr}
def afP (K:PySem.W.Frag) (tl:TE):TI:=fun σ H R=>tl σ H fun x H1=>∃ a,x=.ref a∧(∃ xs,bR K H1 a xs)∧R (Vj K a) H1
def atd (K:PySem.W.Frag) (tl:TE):TI:=fun σ H R=>tl σ H fun x H1=>∃ a,x=.ref a∧(∃ xs,dH K H1 a xs)∧R (Itt K a) H1
theorem yT {l:Expr}{tl:TE} (hl:PE X l tl):PI X tg l (afP X.K tl):=by
 intro pins s σ H R I h
 refine d9 (hl pins s σ H _ I h) fun v s1 zq=>?_
 obtain⟨x,H1,I1,r1,q1⟩:=zq
 obtain⟨a,e,⟨xs,hq⟩,q⟩:=q1
 subst e
 cases r1
 obtain⟨its,rv,p,hz⟩:=I1.list hq
 refine wpAny_pyIter_list p.isList ?_
 refine⟨s1.heap.objs.size,[s1.heap.objs.size],_,_,H1,rfl,I1.kept (t':=s1.toks) fun b o e=>Heap.get?_push_of_some _ e,Ua a _,⟨_,Heap.get?_push_size _ rfl,rfl,rfl⟩,fun b hb=>?_,q⟩
 have e:b=s1.heap.objs.size:=by simpa using hb
 subst e
 exact I1.MK (Nat.le_refl _) (I1.hok.fresh (Nat.le_refl _))
theorem abS {l:Expr}{tl:TE} (hl:PE X l tl):PI X tg l (atd X.K tl):=by
 intro pins s σ H R I h
 refine d9 (hl pins s σ H _ I h) fun v s1 zq=>?_
 obtain⟨x,H1,I1,r1,q1⟩:=zq
 obtain⟨a,e,⟨xs,hq⟩,q⟩:=q1
 subst e
 cases r1
 obtain⟨its,rv,p,hz⟩:=I1.tuple hq
 refine wpAny_pyIter_tuple (show s1.heap.IsTuple a its.toArray from p) ?_
 refine⟨s1.heap.objs.size,[s1.heap.objs.size],_,_,H1,rfl,I1.kept (t':=s1.toks) fun b o e=>Heap.get?_push_of_some _ e,P0 a _,⟨_,Heap.get?_push_size _ rfl,rfl,rfl⟩,fun b hb=>?_,q⟩
 have e:b=s1.heap.objs.size:=by simpa using hb
 subst e
 exact I1.MK (Nat.le_refl _) (I1.hok.fresh (Nat.le_refl _))
theorem VB {pins:List (Addr × Obj)}{σ:St}{H:Hp}{s:Shared}{R:It→Hp→Prop}{E:Value→Shared→Prop}{lo hi:Int}{t u v:Tok}{tk:Nat} (I:Inv X pins σ H s) (h1:-(2 ^ 62)≤lo) (h2:lo<2 ^ 62) (h3:-(2 ^ 62)≤hi) (h4:hi<2 ^ 62)
   (q:R (Itr lo (hi - lo).toNat) H):wpAny (model X.prog X.w) X.A (pyIter (.ref s.heap.objs.size)) (PIE X pins σ tg R) E { s with heap:=s.heap.push { cls:=.type "range",data:=.fields #[.int lo t,.int hi u,.int 1 v] },toks:=tk }:=by
 refine wpAny_pyIter_range (IsRange.new ..) (small_one h1 h2 h3 h4) ?_
 have I1:Inv X pins σ H { s with heap:=s.heap.push { cls:=.type "range",data:=.fields #[.int lo t,.int hi u,.int 1 v] },toks:=tk }:=I.kept fun b o e=>Heap.get?_push_of_some _ e
 refine⟨(s.heap.push { cls:=.type "range",data:=.fields #[.int lo t,.int hi u,.int 1 v] }).objs.size,[(s.heap.push { cls:=.type "range",data:=.fields #[.int lo t,.int hi u,.int 1 v] }).objs.size],_,_,H,rfl,
   I1.kept (t':=tk) fun b o e=>Heap.get?_push_of_some _ e,Qa _ lo (hi - lo).toNat,?_,fun b hb=>?_,q⟩
 · have e1:lo+((0:Nat):Int)*1=lo:=by simp
   have e2:(((hi - lo).toNat:Nat):Int) - ((0:Nat):Int)=Builtin.Range.rangeSize lo hi 1:=by rw [rangeSize_one];split <;> omega
   show IsRangeIter _ _ (lo+((0:Nat):Int)*1) ((((hi - lo).toNat:Nat):Int) - ((0:Nat):Int)) 1
   rw [e1,e2]
   exact Heap.get?_push_size _ rfl
 · have e:b=(s.heap.push { cls:=.type "range",data:=.fields #[.int lo t,.int hi u,.int 1 v] }).objs.size:=by simpa using hb
   subst e
   exact I1.MK (Nat.le_refl _) (I1.hok.fresh (Nat.le_refl _))
def afQ (ta:TA):TI:=fun σ H R=>ta σ H fun vs H1=>∃ j:Int,vs=[.int j]∧-(2 ^ 62)≤j∧j<2 ^ 62∧R (Itr 0 j.toNat) H1
theorem Ub {a:Expr}{ta:TA}{p pos:Pos} (hg:Gl X "range") (hm:X.mg "range" = none) (ha:PA X [a] ta) (hs:starEach [a] X.env=[(false,eval a X.env)]:=by rfl):PI X tg (.Call (.Name "range" p) [a] [] pos) (afQ ta):=by
 intro pins s σ H R I h
 refine Call_ (J9 I hg hm boot_range (PyProof.Rows.callWith_type1 (d9 (ha pos pins s σ H _ I h) fun us s1 ⟨vs,H1,I1,r1,q1⟩=>?_) hs rfl))
 obtain⟨j,e,q1,q2,q⟩:=q1
 subst e
 cases r1 with
 | cons r rr =>
   cases rr
   obtain⟨t,rfl⟩:=r
   exact call_range_1 (VB I1 (by omega) (by omega) q1 q2 (by simpa using q))
def ate (wi:TI) (g:TG) (tb:TS):TS:=fun D σ H=>wi σ H fun J H1=>∃ W:Nat→Nat→St→Hp→Prop,(∃ m,W 0 m σ H1)∧∀ i m σ H,W i m σ H →
 (J.stop i H∧D.nx σ H)∨(J.go i H∧∃ N:St→Hp→Prop,(∀ σ' H',N σ' H'→∃ m',m'<m∧W (i+1) m' σ' H')∧∀ x H',J.PJ i H x H'→g x σ H' fun σ2 H2=>tb { D with nx:=N,ct:=N,bk:=D.nx } σ2 H2)
def qw (fp:List Addr) (h:Heap):List (Addr × Obj):=fp.filterMap fun b=>(h.get? b).map fun o=>(b,o)
theorem yR {fp:List Addr}{h:Heap}{b:Addr}{o:Obj} (hb:b∈fp) (e:h.get? b=some o):(b,o)∈qw fp h:=List.mem_filterMap.mpr ⟨b,hb,by rw [e];rfl⟩
theorem Uc {fp:List Addr}{h:Heap}{p:Addr × Obj} (hp:p∈qw fp h):p.1∈fp∧h.get? p.1=some p.2:=by
 obtain⟨b,hb,e⟩:=List.mem_filterMap.mp hp
 cases q:h.get? b with
 | none=>rw [q] at e;cases e
 | some o =>
   rw [q] at e
   have e':(b,o)=p:=Option.some.inj e
   subst e'
   exact⟨hb,q⟩
theorem Inv.pinned {pins:List (Addr × Obj)}{σ:St}{H:Hp}{s:Shared}{fp:List Addr} (I:Inv X pins σ H s) (hf:∀ b∈fp,mK X pins H b) (ho:∀ b∈fp,∃ o,s.heap.get? b=some o∧∀ v,o.data≠.cell v):Inv X (pins++qw fp s.heap) σ H s :=
 I.gH fun p hp=>(List.mem_append.mp hp).elim (fun z=>I.pin p (List.mem_append_right _ z)) fun z=>by
   obtain⟨hb,e⟩:=Uc z
   obtain⟨f0,f1,f2,_⟩:=hf p.1 hb
   obtain⟨o,e',d⟩:=ho p.1 hb
   rw [e] at e';cases e'
   exact⟨e,f0,f1,f2,d⟩
theorem Inv.Ez {pins pl:List (Addr × Obj)}{σ:St}{H:Hp}{s:Shared} (I:Inv X (pins++pl) σ H s):Inv X pins σ H s:=I.gH fun p hp=>I.pin p (List.mem_append_right _ (List.mem_append_left _ hp))
theorem abT {iter:Expr}{body:List Stmt}{wi:TI}{g:TG}{tb:TS}{pos:Pos} (hp:PassesOwn (model X.prog X.w) X.A X.env X.xe) (hc:X.calm=true) (hi:PI X tg iter wi) (hg:PG X tg g) (hb:m6 X body tb)
   (hs:∀ x,foldedSetIterable iter X.env x=pure x:=by intro _;rfl):PS X (.For tg iter body [] pos) (ate wi g tb):=by
 intro pins s σ H D I h
 refine wpAny_For (d9 (hi pins s σ H _ I h) fun v s1 h1=>d9 h1 fun itv s2 h2=>?_) hs
 obtain⟨it,fp,tn,J,H2,e,I2,T,st2,f2,W,⟨m0,w0⟩,turn⟩:=h2
 subst e
 have stat:∀ {H':Hp},(∀ b∈fp,H' b=none)→∀ b∈fp,mK X pins H' b:=fun hn b hb=>⟨hn b hb,(f2 b hb).2⟩
 refine codeAny_forLoop_any (fun n s'=>∃ i σ' H',Inv X pins σ' H' s'∧tn i s'.heap∧(∀ b∈fp,H' b=none)∧W i n σ' H') ?_ m0 ⟨0,σ,H2,I2,st2,fun b hb=>(f2 b hb).1,w0⟩
 rintro n s3 ⟨i,σ3,H3,I3,st3,fr3,w3⟩
 rcases turn i n σ3 H3 w3 with ⟨stop,qn⟩ | ⟨go,N,hN,step⟩
 · refine wpAny_passesOwn hp (d9 (T.done X rfl rfl rfl hc i pins s3 σ3 H3 X.xe I3 (stat fr3) st3 stop) fun r s4 zq=>?_)
   obtain⟨hr,I4⟩:=zq
   subst hr
   exact wpAny_execs_nil ⟨σ3,H3,I4,qn⟩
 · refine wpAny_passesOwn hp (d9 (T.item X rfl rfl rfl hc i pins s3 σ3 H3 X.xe I3 (stat fr3) st3 go) fun r s4 zq=>?_)
   obtain⟨u,hr,h4⟩:=zq
   subst hr
   refine wpAny_passesOwn hp (d9 h4 fun _ s5 zq=>?_)
   obtain⟨x,H5,I5,r5,y5,Kd,fr5⟩:=zq
   have I5':=I5.pinned (stat fr5) (T.obj _ _ Kd)
   refine wpAny_passesOwn hp (d9 (hg _ s5 σ3 H5 x u _ I5' r5 (step x H5 y5)) fun _ s6 zq=>?_)
   obtain⟨σ6,H6,I6,q6⟩:=zq
   refine wpAny_passesOwn hp (d9 (hb _ s6 σ6 H6 _ I6 q6) fun f s7 q7=>?_)
   have again:∀ {σ7:St}{H7:Hp},Inv X (pins++qw fp s5.heap) σ7 H7 s7→N σ7 H7→∃ m,m<n∧∃ i σ' H',Inv X pins σ' H' s7∧tn i s7.heap∧(∀ b∈fp,H' b=none)∧W i m σ' H':=fun {σ7 H7} I7 n7=>by
     obtain⟨m',hm,w7⟩:=hN σ7 H7 n7
     refine⟨m',hm,i+1,σ7,H7,I7.Ez,T.keep _ _ _ Kd fun b hb o e=>(I7.pin (b,o) (List.mem_append_right _ (List.mem_append_right _ (yR hb e)))).1,fun b hb=>?_,w7⟩
     obtain⟨o,e,d⟩:=T.obj _ _ Kd b hb
     exact (I7.pin (b,o) (List.mem_append_right _ (List.mem_append_right _ (yR hb e)))).2.1
   cases f with
   | next=>obtain⟨σ7,H7,I7,n7⟩:=q7;exact again I7 n7
   | cont=>obtain⟨σ7,H7,I7,n7⟩:=q7;exact again I7 n7
   | brk=>obtain⟨σ7,H7,I7,q7⟩:=q7;exact⟨σ7,H7,I7.Ez,q7⟩
   | ret v=>obtain⟨x7,σ7,H7,I7,r7,q7⟩:=q7;exact⟨x7,σ7,H7,I7.Ez,r7,q7⟩
end
theorem VD {K:PySem.W.Frag}{a:Addr}{xs:List V}{g:TG}{tb:TS}{D:Ends}{σ:St}{H:Hp} (Pv:Nat→St→Hp→Prop) (h0:Pv 0 σ H) (hl:∀ i σ H,i≤xs.length→Pv i σ H→bR K H a xs)
   (hs:∀ i x σ H,xs[i]? = some x→Pv i σ H→g x σ H fun σ2 H2=>tb { D with nx:=Pv (i+1),ct:=Pv (i+1),bk:=D.nx } σ2 H2) (hd:∀ σ H,Pv xs.length σ H→D.nx σ H) :
   ∃ W:Nat→Nat→St→Hp→Prop,(∃ m,W 0 m σ H)∧∀ i m σ H,W i m σ H →
     ((Vj K a).stop i H∧D.nx σ H)∨((Vj K a).go i H∧∃ N:St→Hp→Prop,(∀ σ' H',N σ' H'→∃ m',m'<m∧W (i+1) m' σ' H')∧∀ x H',(Vj K a).PJ i H x H'→g x σ H' fun σ2 H2=>tb { D with nx:=N,ct:=N,bk:=D.nx } σ2 H2):=by
 refine⟨fun i m σ H=>m=xs.length - i∧i≤xs.length∧Pv i σ H,⟨xs.length,by simp,Nat.zero_le _,h0⟩,?_⟩
 rintro i m σ H ⟨rfl,hi,p⟩
 have q:=hl i σ H hi p
 by_cases hlt:i<xs.length
 · refine .inr ⟨⟨xs,xs[i],q,by simp [hlt]⟩,Pv (i+1),fun σ' H' p'=>⟨xs.length - (i+1),by omega,rfl,hlt,p'⟩,fun x H' y=>?_⟩
   obtain⟨e,y⟩:=y
   subst e
   exact hs i x σ _ (y xs q) p
 · have e:i=xs.length:=by omega
   subst e
   exact .inl ⟨⟨xs,q,Nat.le_refl _⟩,hd σ H p⟩
theorem Ud {lo:Int}{n:Nat}{g:TG}{tb:TS}{D:Ends}{σ:St}{H:Hp} (Pv:Nat→St→Hp→Prop) (h0:Pv 0 σ H)
   (hs:∀ i σ H,i<n→Pv i σ H→g (.int (lo+i)) σ H fun σ2 H2=>tb { D with nx:=Pv (i+1),ct:=Pv (i+1),bk:=D.nx } σ2 H2) (hd:∀ σ H,Pv n σ H→D.nx σ H) :
   ∃ W:Nat→Nat→St→Hp→Prop,(∃ m,W 0 m σ H)∧∀ i m σ H,W i m σ H →
     ((Itr lo n).stop i H∧D.nx σ H)∨((Itr lo n).go i H∧∃ N:St→Hp→Prop,(∀ σ' H',N σ' H'→∃ m',m'<m∧W (i+1) m' σ' H')∧∀ x H',(Itr lo n).PJ i H x H'→g x σ H' fun σ2 H2=>tb { D with nx:=N,ct:=N,bk:=D.nx } σ2 H2):=by
 refine⟨fun i m σ H=>m=n - i∧i≤n∧Pv i σ H,⟨n,by simp,Nat.zero_le _,h0⟩,?_⟩
 rintro i m σ H ⟨rfl,hi,p⟩
 by_cases hlt:i<n
 · refine .inr ⟨hlt,Pv (i+1),fun σ' H' p'=>⟨n - (i+1),by omega,rfl,hlt,p'⟩,fun x H' y=>?_⟩
   obtain⟨e,y⟩:=y
   subst e y
   exact hs i σ _ hlt p
 · have e:i=n:=by omega
   subst e
   exact .inl ⟨Nat.le_refl _,hd σ H p⟩
end L2
namespace L2
open PySem PySem.Spec PyProof.Rows
abbrev R2:=V→V→Hp→VK→Prop
def iw (X:Cx) (f:Value→Value→Sem Value) (r:R2):Prop :=
 ∀ (pins:List (Addr × Obj)) (s:Shared) (σ:St) (H:Hp) (x y:V) (v u:Value) (Q:VK),Inv X pins σ H s→RelV x v→RelV y u→r x y H Q →
   wpAny (model X.prog X.w) X.A (f v u) (EP X pins σ Q) X.xe s
def wN (X:Cx) (f:Value→Sem Value) (r:V→Hp→VK→Prop):Prop :=
 ∀ (pins:List (Addr × Obj)) (s:Shared) (σ:St) (H:Hp) (x:V) (v:Value) (Q:VK),Inv X pins σ H s→RelV x v→r x H Q →
   wpAny (model X.prog X.w) X.A (f v) (EP X pins σ Q) X.xe s
def cg (X:Cx) (f:Value) (r:List V→Hp→VK→Prop):Prop :=
 ∀ (pins:List (Addr × Obj)) (s:Shared) (σ:St) (H:Hp) (xs:List V) (us:List Value) (Q:VK),Inv X pins σ H s→Vals xs us→r xs H Q →
   wpAny (model X.prog X.w) X.A (call f us) (EP X pins σ Q) X.xe s
def jj (X:Cx) (r:V→Hp→(Bool→Hp→Prop)→Prop):Prop :=
 ∀ (pins:List (Addr × Obj)) (s:Shared) (σ:St) (H:Hp) (x:V) (v:Value) (Q:Bool→Hp→Prop),Inv X pins σ H s→RelV x v→r x H Q →
   wpAny (model X.prog X.w) X.A (truthy v) (TP X pins σ Q) X.xe s
def PK (r:R2) (ta tb:TE):TE:=fun σ H Q=>ta σ H fun x H1=>tb σ H1 fun y H2=>r x y H2 Q
def rI (C:Int→Int→Prop) (g:Int→Int→V):R2:=fun x y H Q=>∃ i j,x=.int i∧y=.int j∧C i j∧Q (g i j) H
def Sw (g:Int→Int→V):R2:=fun x y H Q=>∃ i j,x=.int i∧y=.int j∧Q (g i j) H
section
variable {X:Cx}{a b c:Expr}{ta tb tc:TE}{pos:Pos}
theorem abW (ha:PE X a ta) (hb:PE X b tb) {pins:List (Addr × Obj)}{s:Shared}{σ:St}{H:Hp}{R:V→V→Hp→Prop} (I:Inv X pins σ H s)
   (h:ta σ H fun x H1=>tb σ H1 fun y H2=>R x y H2) {Q:Value→Shared→Prop}{f:Value→Value→Sem Value}
   (hf:∀ v u s2 x y H2,Inv X pins σ H2 s2→RelV x v→RelV y u→R x y H2→wpAny (model X.prog X.w) X.A (f v u) Q X.xe s2) :
   wpAny (model X.prog X.w) X.A (eval a X.env) (fun v s₁=>wpAny (model X.prog X.w) X.A (eval b X.env) (fun u s₂=>wpAny (model X.prog X.w) X.A (f v u) Q X.xe s₂) X.xe s₁) X.xe s:=by
 refine d9 (ha pins s σ H _ I h) fun v s1 zq=>?_
 obtain⟨x,H1,I1,r1,q1⟩:=zq
 refine d9 (hb pins s1 σ H1 _ I1 q1) fun u s2 zq=>?_
 obtain⟨y,H2,I2,r2,q2⟩:=zq
 exact hf v u s2 x y H2 I2 r1 r2 q2
theorem zY {op:Operator}{r:R2} (ho:iw X (binaryOp op) r) (ha:PE X a ta) (hb:PE X b tb):PE X (.BinOp a op b pos) (PK r ta tb):=by
 intro pins s σ H Q I h
 exact wpAny_BinOp (abW ha hb I h fun v u s2 x y H2 I2 rx ry q=>ho pins s2 σ H2 x y v u Q I2 rx ry q)
theorem opI {f:Value→Value→Sem Value}{C:Int→Int→Prop}{g:Int→Int→Int}
   (rule:∀ (i j:Int) (t u:Tok) (s:Shared) (Q:Value→Shared→Prop) (E:Value→Shared→Prop),C i j→Q (.int (g i j) s.toks) { s with toks:=s.toks+1 }→wpAny (model X.prog X.w) X.A (f (.int i t) (.int j u)) Q E s) :
   iw X f (rI C fun i j=>.int (g i j)):=by
 intro pins s σ H x y v u Q I rx ry h
 obtain⟨i,j,rfl,rfl,hc,q⟩:=h
 obtain⟨t,rfl⟩:=rx
 obtain⟨t',rfl⟩:=ry
 exact rule i j t t' s _ _ hc ⟨.int (g i j),H,I.tok _,⟨_,rfl⟩,q⟩
theorem afR {f:Value→Value→Sem Value}{g:Int→Int→Int}
   (rule:∀ (i j:Int) (t u:Tok) (s:Shared) (Q:Value→Shared→Prop) (E:Value→Shared→Prop),Q (.int (g i j) s.toks) { s with toks:=s.toks+1 }→wpAny (model X.prog X.w) X.A (f (.int i t) (.int j u)) Q E s) :
   iw X f (Sw fun i j=>.int (g i j)):=by
 intro pins s σ H x y v u Q I rx ry h
 obtain⟨i,j,rfl,rfl,q⟩:=h
 obtain⟨t,rfl⟩:=rx
 obtain⟨t',rfl⟩:=ry
 exact rule i j t t' s _ _ ⟨.int (g i j),H,I.tok _,⟨_,rfl⟩,q⟩
theorem Zr {f:Value→Value→Sem Value}{g:Int→Int→Bool}
   (rule:∀ (i j:Int) (t u:Tok) (s:Shared) (Q:Value→Shared→Prop) (E:Value→Shared→Prop),Q (.bool (g i j)) s→wpAny (model X.prog X.w) X.A (f (.int i t) (.int j u)) Q E s) :
   iw X f (Sw fun i j=>.bl (g i j)):=by
 intro pins s σ H x y v u Q I rx ry h
 obtain⟨i,j,rfl,rfl,q⟩:=h
 obtain⟨t,rfl⟩:=rx
 obtain⟨t',rfl⟩:=ry
 exact rule i j t t' s _ _ ⟨.bl (g i j),H,I,rfl,q⟩
def atf (i j:Int):Prop:=0<j∧j<1073741824
def atg (i j:Int):Prop:=0≤j∧j≤1000000∧i.natAbs<2 ^ 64
def afS (i j:Int):Prop:=(-(2 ^ 64)<i∧i<2 ^ 64)∨(-(2 ^ 64)<j∧j<2 ^ 64)
theorem afS.ok {i j:Int} (h:afS i j):IntMulOk i j:=by
 rcases h with ⟨h1,h2⟩ | ⟨h1,h2⟩
 · exact .of_left (intBits_le_64 h1 h2)
 · exact .of_right (intBits_le_64 h1 h2)
theorem xE:iw X (binaryOp .Add) (Sw fun i j=>.int (i+j)):=afR fun _ _ _ _ _ _ _ q=>add_int q
theorem rY:iw X (binaryOp .Sub) (Sw fun i j=>.int (i - j)):=afR fun _ _ _ _ _ _ _ q=>sub_int q
theorem kE:iw X (binaryOp .FloorDiv) (rI atf fun i j=>.int (i / j)):=opI fun i j _ _ _ _ _ hc q=>by
 have h1:(0:Int)<j:=hc.1
 have h2:j<1073741824:=hc.2
 exact floordiv_int (by omega) (by rw [Int.fdiv_eq_ediv_of_nonneg i (by omega)];exact q) (.inl (PyProof.noPylong_small (by omega)))
theorem yX:iw X (binaryOp .Mod) (rI (fun _ j=>0<j) fun i j=>.int (i % j)):=opI fun i j _ _ _ _ _ hc q=>by
 have h1:(0:Int)<j:=hc
 exact mod_int' (by omega) (by rw [Int.fmod_eq_emod_of_nonneg i (by omega)];exact q)
theorem Ke:iw X (binaryOp .Pow) (rI atg fun i j=>.int (i ^ j.toNat)):=opI fun _ _ _ _ _ _ _ hc q=>pow_int_small hc.1 hc.2.1 hc.2.2 q
end
def afT:V→V→Bool
 | .non,.non=>true | .non,.int _=>true | .int _,.non=>true | .non,.bl _=>true | .bl _,.non=>true | .non,.str _=>true | .str _,.non=>true
 | .int _,.int _=>true | .bl _,.bl _=>true | .str _,.str _=>true | .Sv _,.Sv _=>true
 | .int _,.str _=>true | .str _,.int _=>true | .bl _,.str _=>true | .str _,.bl _=>true
 | _,_=>false
def rEq:R2:=fun x y H Q=>afT x y=true∧Q (.bl (decide (x=y))) H
def rNe:R2:=fun x y H Q=>afT x y=true∧Q (.bl (!decide (x=y))) H
theorem El {i j:Int}:decide (V.int i=V.int j)=(i == j):=by
 rw [Bool.eq_iff_iff]
 simp
theorem VF {i j:Bool}:decide (V.bl i=V.bl j)=(i == j):=by
 rw [Bool.eq_iff_iff]
 simp
theorem Sx {i j:Str}:decide (V.str i=V.str j)=(i == j):=by
 rw [Bool.eq_iff_iff]
 simp
theorem SJ {i j:Array UInt8}:decide (V.Sv i=V.Sv j)=(i.toList == j.toList):=by
 rw [Bool.eq_iff_iff]
 cases i
 cases j
 simp
section
variable {X:Cx}{a b c:Expr}{ta tb tc:TE}{pos:Pos}
theorem yL {pins:List (Addr × Obj)}{σ:St}{H:Hp}{s:Shared}{Q:VK}{k k':Bool} (I:Inv X pins σ H s) (q:Q (.bl k) H) (e:k=k'):EP X pins σ Q (.bool k') s:=by
 subst e
 exact⟨.bl k,H,I,rfl,q⟩
theorem yM:iw X (compareOp .Eq) rEq:=by
 intro pins s σ H x y v u Q I rx ry h
 obtain⟨hs,q⟩:=h
 cases x with
 | non =>
   cases rx
   cases y with
   | non=>cases ry;exact PySem.EqNone.eq_none_none (yL I q (by simp))
   | bl j=>cases ry;exact PySem.EqNone.eq_none_bool (yL I q (by simp))
   | int j=>obtain⟨t',rfl⟩:=ry;exact PySem.EqNone.eq_none_int (yL I q (by simp))
   | str j=>obtain⟨t',rfl⟩:=ry;exact PySem.EqNone.eq_none_str (yL I q (by simp))
   | _=>exact absurd (show false=true from hs) Bool.false_ne_true
 | bl i =>
   cases rx
   cases y with
   | non=>cases ry;exact PySem.EqNone.eq_bool_none (yL I q (by simp))
   | bl j=>cases ry;exact eq_bool (yL I q VF)
   | str j=>obtain⟨t',rfl⟩:=ry;exact PySem.EqMixed.eq_bool_str (yL I q (by simp))
   | _=>exact absurd (show false=true from hs) Bool.false_ne_true
 | int i =>
   obtain⟨t,rfl⟩:=rx
   cases y with
   | non=>cases ry;exact PySem.EqNone.eq_int_none (yL I q (by simp))
   | int j=>obtain⟨t',rfl⟩:=ry;exact eq_int (yL I q El)
   | str j=>obtain⟨t',rfl⟩:=ry;exact PySem.EqMixed.eq_int_str (yL I q (by simp))
   | _=>exact absurd (show false=true from hs) Bool.false_ne_true
 | str i =>
   obtain⟨t,rfl⟩:=rx
   cases y with
   | non=>cases ry;exact PySem.EqNone.eq_str_none (yL I q (by simp))
   | bl j=>cases ry;exact PySem.EqMixed.eq_str_bool (yL I q (by simp))
   | int j=>obtain⟨t',rfl⟩:=ry;exact PySem.EqMixed.eq_str_int (yL I q (by simp))
   | str j=>obtain⟨t',rfl⟩:=ry;exact eq_str (yL I q Sx)
   | _=>exact absurd (show false=true from hs) Bool.false_ne_true
 | Sv i =>
   obtain⟨t,rfl⟩:=rx
   cases y with
   | Sv j=>obtain⟨t',rfl⟩:=ry;exact PySem.W.eq_bytes (yL I q SJ)
   | _=>exact absurd (show false=true from hs) Bool.false_ne_true
 | _=>cases y <;> exact absurd (show false=true from hs) Bool.false_ne_true
theorem VG:iw X (compareOp .NotEq) rNe:=by
 intro pins s σ H x y v u Q I rx ry h
 obtain⟨hs,q⟩:=h
 cases x with
 | non =>
   cases rx
   cases y with
   | non=>cases ry;exact PySem.EqNone.ne_none_none (yL I q (by simp))
   | bl j=>cases ry;exact PySem.EqNone.ne_none_bool (yL I q (by simp))
   | int j=>obtain⟨t',rfl⟩:=ry;exact PySem.EqNone.ne_none_int (yL I q (by simp))
   | str j=>obtain⟨t',rfl⟩:=ry;exact PySem.EqNone.ne_none_str (yL I q (by simp))
   | _=>exact absurd (show false=true from hs) Bool.false_ne_true
 | bl i =>
   cases rx
   cases y with
   | non=>cases ry;exact PySem.EqNone.ne_bool_none (yL I q (by simp))
   | bl j=>cases ry;exact ne_bool (yL I q (congrArg not VF))
   | str j=>obtain⟨t',rfl⟩:=ry;exact PySem.EqMixed.ne_bool_str (yL I q (by simp))
   | _=>exact absurd (show false=true from hs) Bool.false_ne_true
 | int i =>
   obtain⟨t,rfl⟩:=rx
   cases y with
   | non=>cases ry;exact PySem.EqNone.ne_int_none (yL I q (by simp))
   | int j=>obtain⟨t',rfl⟩:=ry;exact ne_int (yL I q (congrArg not El))
   | str j=>obtain⟨t',rfl⟩:=ry;exact PySem.EqMixed.ne_int_str (yL I q (by simp))
   | _=>exact absurd (show false=true from hs) Bool.false_ne_true
 | str i =>
   obtain⟨t,rfl⟩:=rx
   cases y with
   | non=>cases ry;exact PySem.EqNone.ne_str_none (yL I q (by simp))
   | bl j=>cases ry;exact PySem.EqMixed.ne_str_bool (yL I q (by simp))
   | int j=>obtain⟨t',rfl⟩:=ry;exact PySem.EqMixed.ne_str_int (yL I q (by simp))
   | str j=>obtain⟨t',rfl⟩:=ry;exact ne_str (yL I q (congrArg not Sx))
   | _=>exact absurd (show false=true from hs) Bool.false_ne_true
 | Sv i =>
   obtain⟨t,rfl⟩:=rx
   cases y with
   | Sv j=>obtain⟨t',rfl⟩:=ry;exact PySem.W.ne_bytes (yL I q (congrArg not SJ))
   | _=>exact absurd (show false=true from hs) Bool.false_ne_true
 | _=>cases y <;> exact absurd (show false=true from hs) Bool.false_ne_true
theorem oM:iw X (compareOp .Lt) (Sw fun i j=>.bl (decide (i<j))):=Zr fun _ _ _ _ _ _ _ q=>lt_int q
theorem afU:iw X (compareOp .LtE) (Sw fun i j=>.bl (decide (i≤j))):=Zr fun _ _ _ _ _ _ _ q=>le_int q
theorem SM:iw X (compareOp .Gt) (Sw fun i j=>.bl (decide (j<i))):=Zr fun _ _ _ _ _ _ _ q=>gt_int q
theorem afV:iw X (compareOp .GtE) (Sw fun i j=>.bl (decide (j≤i))):=Zr fun _ _ _ _ _ _ _ q=>ge_int q
theorem xS:iw X (compareOp .Is) (fun x y H Q=>y=.non∧Q (.bl (decide (x=.non))) H):=by
 intro pins s σ H x y v u Q I rx ry h
 obtain⟨rfl,q⟩:=h
 cases ry
 refine is_none_gen (yL I q ?_)
 cases x <;> first
   | (cases rx;rfl)
   | (obtain⟨t,rfl⟩:=rx;rfl)
theorem wO:iw X (compareOp .IsNot) (fun x y H Q=>y=.non∧Q (.bl (!decide (x=.non))) H):=by
 intro pins s σ H x y v u Q I rx ry h
 obtain⟨rfl,q⟩:=h
 cases ry
 refine isnot_none_gen (yL I q ?_)
 cases x <;> first
   | (cases rx;rfl)
   | (obtain⟨t,rfl⟩:=rx;rfl)
theorem iw.or {f:Value→Value→Sem Value}{r r':R2} (h:iw X f r) (h':iw X f r'):iw X f (fun x y H Q=>r x y H Q∨r' x y H Q):=by
 intro pins s σ H x y v u Q I rx ry q
 rcases q with q | q
 · exact h pins s σ H x y v u Q I rx ry q
 · exact h' pins s σ H x y v u Q I rx ry q
theorem zN (b:Expr) {op:CmpOp} (h:op≠.In:=by decide) (h2:op≠.NotIn:=by decide):behindInMarks op b=false:=by
 have e1:(op == CmpOp.In)=false:=by cases op <;> first | rfl | exact absurd rfl h
 have e2:(op == CmpOp.NotIn)=false:=by cases op <;> first | rfl | exact absurd rfl h2
 cases b <;> simp [behindInMarks,e1,e2]
theorem xF {op:CmpOp}{r:R2} (ho:iw X (compareOp op) r) (ha:PE X a ta) (hb:PE X b tb) (hm:behindInMarks op b=false):PE X (.Compare a [op] [b] pos) (PK r ta tb):=by
 intro pins s σ H Q I h
 exact wpAny_Compare1 (abW ha hb I h fun v u s2 x y H2 I2 rx ry q=>ho pins s2 σ H2 x y v u Q I2 rx ry q) hm
def rD (t:TE):TT:=fun σ H Q=>t σ H fun x H'=>∃ k,x=.bl k∧Q k H'
theorem zL {op:CmpOp}{r:R2} (ho:iw X (compareOp op) r) (ha:PE X a ta) (hb:PE X b tb) (hm:behindInMarks op b=false):PT X (.Compare a [op] [b] pos) (rD (PK r ta tb)):=by
 intro pins s σ H Q I h
 refine wpAny_isTrue_Compare1 (d9 (ha pins s σ H _ I h) fun v s1 ⟨x,H1,I1,r1,q1⟩=>d9 (hb pins s1 σ H1 _ I1 q1) fun u s2 ⟨y,H2,I2,r2,q2⟩ =>
   d9 (ho pins s2 σ H2 x y v u _ I2 r1 r2 q2) fun c s3 ⟨z,H3,I3,r3,k,e,q3⟩=>?_) hm
 subst e
 cases r3
 exact wpAny_truthy_bool ⟨H3,I3,q3⟩
def abX (r r':R2) (ta tb tc:TE):TE:=fun σ H Q=>ta σ H fun x H1=>tb σ H1 fun y H2=>r x y H2 fun z H3=>∃ k,z=.bl k ∧
 (if k=true then tc σ H3 fun w' H4=>r' y w' H4 Q else Q (.bl false) H3)
theorem VH {op op':CmpOp}{r r':R2} (ho:iw X (compareOp op) r) (ho':iw X (compareOp op') r') (ha:PE X a ta) (hb:PE X b tb) (hc:PE X c tc)
   (hm:lastMarks [op,op'] [b,c]=false:=by with_unfolding_all rfl):PE X (.Compare a [op,op'] [b,c] pos) (abX r r' ta tb tc):=by
 intro pins s σ H Q I h
 refine Compare_chain (d9 (ha pins s σ H _ I h) fun v s1 ⟨x,H1,I1,r1,q1⟩=>chain_link (d9 (hb pins s1 σ H1 _ I1 q1) fun u s2 ⟨y,H2,I2,r2,q2⟩ =>
   d9 (ho pins s2 σ H2 x y v u _ I2 r1 r2 q2) fun d s3 ⟨z,H3,I3,r3,k,e,q3⟩=>?_)) hm
 subst e
 cases r3
 refine wpAny_truthy_bool ?_
 cases k with
 | false=>exact ite_ff ⟨.bl false,H3,I3,rfl,q3⟩
 | true=>exact ite_tt (chain_last (d9 (hc pins s3 σ H3 _ I3 q3) fun w' s4 ⟨z',H4,I4,r4,q4⟩=>ho' pins s4 σ H4 y z' u w' Q I4 r2 r4 q4))
theorem EY:(sizeLine:Nat)<2 ^ 63:=by rw [sizeLine_eq];decide
theorem vq:iw X (binaryOp .Add) (fun x y H Q=>∃ i j,x=.str i∧y=.str j∧i.length+j.length≤sizeLine∧Q (.str (i++j)) H):=by
 intro pins s σ H x y v u Q I rx ry h
 obtain⟨i,j,rfl,rfl,hz,q⟩:=h
 obtain⟨t,rfl⟩:=rx
 obtain⟨t',rfl⟩:=ry
 exact add_str (fun t' tk=>⟨.str (i++j),H,I.tok _,⟨_,rfl⟩,q⟩) hz
theorem vals1 {x:V}{us:List Value} (r:Vals [x] us):∃ u,us=[u]∧RelV x u:=by
 cases r with
 | cons r1 r2=>cases r2;exact⟨_,rfl,r1⟩
theorem vals2 {x y:V}{us:List Value} (r:Vals [x,y] us):∃ u w',us=[u,w']∧RelV x u∧RelV y w':=by
 cases r with
 | cons r1 r2 =>
   cases r2 with
   | cons r3 r4=>cases r4;exact⟨_,_,rfl,r1,r3⟩
end
end L2
namespace L2
open PySem PySem.Spec PyProof.Rows
structure Qc (h:Heap) (x dx C:Addr) (mA:Str→Option Value):Prop where
 obj:h.get? x=some (PySem.W.instObj C dx)
 ns:h.Ns1 dx mA
 ne:dx≠x
theorem Ue {h:Heap}{dx:Addr}{mA:Str→Option Value} (n:h.Ns1 dx mA):∃ od,h.get? dx=some od∧∀ name,PySem.W.lookIn name od=some (mA name):=by
 obtain⟨o,es,ep,ho,hd,hk,_,hm⟩:=n
 refine⟨o,ho,fun name=>?_⟩
 have e:=hm name
 unfold nsFind findBy at e
 rw [← Array.find?_toList] at e
 unfold PySem.W.lookIn
 rw [hd]
 dsimp only
 split
 · rename_i y q
   rw [q] at e
   exact congrArg some e
 · rename_i q
   rw [q] at e
   have a:es.toList.any (·.refKey)=false:=by
     rw [List.any_eq_false]
     intro y hy
     obtain⟨z,t,hkey⟩:=hk y (Array.mem_toList_iff.mp hy)
     simp [DictEntry.refKey,hkey]
   have a':¬ es.toList.any (·.refKey)=true:=by rw [a];exact Bool.false_ne_true
   rw [if_neg a']
   exact congrArg some e
theorem Qc.look {h:Heap}{x dx C:Addr}{mA:Str→Option Value} (I:Qc h x dx C mA):∃ od,PySem.W.InstAt h x (PySem.W.instObj C dx) C (some od)∧∀ name,PySem.W.lookIn name od=some (mA name) :=
 let ⟨od,ho,hl⟩:=Ue I.ns
 ⟨od,⟨I.obj,rfl,rfl,ho⟩,hl⟩
section
variable {prog:Program}{w:World}{A:Around}{E:Value→Shared→Prop}{s:Shared}{K:PySem.W.Frag}{x dx C f:Addr}{mA:Str→Option Value}{name:Str}{v:Value}
theorem get_map {expr:Bool}{Q:Value→Shared→Prop} (X:K.In s.heap) (I:Qc s.heap x dx C mA) (hg:PySem.W.plainGet K C name=true) (hh:PySem.W.hasDictIn K C=true)
   (ha:PySem.W.findIn K (.ref C) name=some none) (hv:mA name=some v) (hv':PySem.W.handedIn v=true) (h:Q v { s with toks:=s.toks+1 }) :
   wpAny (model prog w) A (getAttr (.ref x) name expr) Q E s:=by
 obtain⟨od,J,hl⟩:=I.look
 exact PySem.W.get_value X J (PySem.W.plainGet_of hg).1 (PySem.W.findObj_own hh ha rfl (by rw [hl,hv])) hv' h
theorem VJ {pl:Sem Bool}{Q:Value × List Value→Shared→Prop} (X:K.In s.heap) (I:Qc s.heap x dx C mA) (hg:PySem.W.plainGet K C name=true)
   (hf:PySem.W.findIn K (.ref C) name=some (some (.ref f))) (ht:PySem.W.isFn K (.ref f)=true) (hv:mA name=none) (h:Q (.ref f,[.ref x]) s) :
   wpAny (model prog w) A (getMethod (.ref x) name pl) Q E s:=by
 obtain⟨od,J,hl⟩:=I.look
 exact PySem.W.method_fn X J (PySem.W.plainGet_of hg).1 (PySem.W.plainGet_of hg).2 hf (beq_iff_eq.mp ht) (by show (PySem.W.lookIn name od).map (·.isSome)=some false;rw [hl,hv];rfl) h
theorem Zt {ns:List Str}{Q:Unit→Shared→Prop} (X:K.In s.heap) (I:Qc s.heap x dx C mA)
   (hs:PySem.W.findIn K (.ref C) "__setattr__" = some (some (.builtin "object.__setattr__"))) (hp:PySem.W.plainOver K C=true) (ht:PySem.W.takerIn K C name=some none) (hh:PySem.W.hasDictIn K C=true)
   (hw:PySem.Within mA ns) (hsz:ns.length≤sizeLine)
   (h:∀ h',Qc h' x dx C (fun y=>if y=name then some v else mA y)→Heap.SameBut dx s.heap h'→Q () { s with heap:=h',toks:=s.toks+2 }) :
   wpAny (model prog w) A (setAttr (.ref x) name v) Q E s:=by
 obtain⟨od,J,hl⟩:=I.look
 refine PySem.W.set_plain X J hs (PySem.W.osa_open (s:={ s with toks:=s.toks+1 }) (r:=none) X J hp ht fun b=>?_)
 obtain⟨cd,hc,hd'⟩:=PySem.W.any_some hh
 have hx:s.heap.get? x=some ⟨.ref C,some dx,.plain,#[]⟩:=I.obj
 refine wpAny_bind (wpAny_pure (wpAny_bind (wpAny_bind (wpAny_loadPart hx (wpAny_bind (PySem.W.Looks.here (s:={ s with toks:=s.toks+1 }) (PySem.W.looks_clsIn X hc) ?_))))))
 rw [hd']
 refine wpAny_pure (a:=some dx) (wpAny_bind (wpAny_pure (wpAny_bind ?_)))
 refine wpAny_nsSet1 (s:={ s with toks:=s.toks+1 }) I.ns fun h' hn2 hs2=>?_
 obtain⟨oD,esD,epD,hoD,hdD,hcD⟩:=hn2.count (PySem.Within.cons name v hw)
 refine wpAny_bind (wpAny_lookBehind hoD (by rw [hdD];exact pastItsLine_dict (Nat.le_trans hcD (by rw [List.length_cons];omega))) ?_)
 exact wpAny_pure (h _ ⟨(hs2.2 _ (Ne.symm I.ne)).trans I.obj,hn2,I.ne⟩ hs2)
theorem VL {R:Result→Shared→Prop}{vs:List Value}{kw:List (Str × Value)} (X:K.In s.heap) (hm:PySem.W.makesIn K C=true)
   (hi:PySem.W.findIn K (.ref C) "__init__" = some (some (.ref f))) (hf:PySem.W.typeIn K (.ref f)=some (.type "function"))
   (h:codeAny (model prog w) (A.under (.builtin "type.__call__" ⟨.ref C::vs,kw⟩)) (.call (.ref f) ⟨.ref (s.heap.objs.size+1)::vs,kw⟩) (PySem.W.InitBack (s.heap.objs.size+1) R)
     { s with heap:=(s.heap.push PySem.W.emptyDict).push (PySem.W.instObj C s.heap.objs.size) }) :
   codeAny (model prog w) A (.call (.ref C) ⟨vs,kw⟩) R s:=by
 obtain⟨hh,g,d,t,os⟩:=s
 exact PySem.W.make_core (PySem.W.makes_of X hm) (PySem.W.looks_findIn X hi) (fun self=>PySem.W.bind_fn X self hf) (.inl rfl) h
end
def qx (f:Str) (v:V):List (Str × V)→List (Str × V)
 | []=>[(f,v)]
 | (g,x)::r=>if g=f then (g,v)::r else (g,x)::qx f v r
theorem BZ (f g:Str) (v:V):∀ fs:List (Str × V),(qx f v fs).lookup g=if g=f then some v else fs.lookup g
 | []=>by
   show List.lookup g [(f,v)]=_
   by_cases h:g=f
   · have hb:(g == f)=true:=beq_iff_eq.mpr h
     simp only [List.lookup,hb,if_pos h]
   · have hb:(g == f)=false:=beq_eq_false_iff_ne.mpr h
     simp only [List.lookup,hb,if_neg h]
 | (k,x)::r=>by
   have ih:=BZ f g v r
   rw [show qx f v ((k,x)::r)=(if k=f then (k,v)::r else (k,x)::qx f v r) from rfl]
   by_cases hk:k=f
   · rw [if_pos hk]
     by_cases h:g=k
     · have hb:(g == k)=true:=beq_iff_eq.mpr h
       simp only [List.lookup,hb,if_pos (h.trans hk)]
     · have hb:(g == k)=false:=beq_eq_false_iff_ne.mpr h
       simp only [List.lookup,hb,if_neg (fun e:g=f=>h (e.trans hk.symm))]
   · rw [if_neg hk]
     by_cases h:g=k
     · have hb:(g == k)=true:=beq_iff_eq.mpr h
       simp only [List.lookup,hb,if_neg (fun e:g=f=>hk (h.symm.trans e))]
     · have hb:(g == k)=false:=beq_eq_false_iff_ne.mpr h
       simp only [List.lookup,hb]
       exact ih
theorem z9 (f:Str) (v:V):∀ fs:List (Str × V),f∈(qx f v fs).map (·.1)∧∀ g,g∈fs.map (·.1)→g∈(qx f v fs).map (·.1)
 | []=>⟨by simp [qx],fun g h=>by simp at h⟩
 | (k,x)::r=>by
   obtain⟨i1,i2⟩:=z9 f v r
   rw [show qx f v ((k,x)::r)=(if k=f then (k,v)::r else (k,x)::qx f v r) from rfl]
   by_cases hk:k=f
   · rw [if_pos hk]
     subst hk
     exact⟨by simp,fun g h=>by simpa using h⟩
   · rw [if_neg hk]
     refine⟨?_,fun g h=>?_⟩
     · rw [List.map_cons]
       exact List.mem_cons_of_mem _ i1
     · rw [List.map_cons] at h ⊢
       rcases List.mem_cons.mp h with e | e
       · exact List.mem_cons.mpr (.inl e)
       · exact List.mem_cons_of_mem _ (i2 g e)
theorem Ca (f:Str) (v:V):∀ fs:List (Str × V),(qx f v fs).length≤fs.length+1
 | []=>by simp [qx]
 | (k,x)::r=>by
   have ih:=Ca f v r
   rw [show qx f v ((k,x)::r)=(if k=f then (k,v)::r else (k,x)::qx f v r) from rfl]
   by_cases hk:k=f
   · rw [if_pos hk,List.length_cons,List.length_cons];omega
   · rw [if_neg hk,List.length_cons,List.length_cons];omega
theorem rK.some_of {v:V}{o:Option Value} (r:rK (some v) o):∃ u,o=some u∧RelV v u:=by
 cases o with
 | none=>exact (show False from r).elim
 | some u=>exact⟨u,rfl,r⟩
theorem rK.none_of {o:Option Value} (r:rK none o):o=none:=by
 cases o with
 | none=>rfl
 | some u=>exact (show False from r).elim
theorem Ug {v:V}{u:Value} (r:RelV v u):PySem.W.handedIn u=true:=by
 cases v with
 | non=>cases (show u=Value.none from r);rfl
 | bl b=>cases (show u=Value.bool b from r);rfl
 | int i=>obtain⟨t,e⟩:=(show ∃ t,u=Value.int i t from r);cases e;rfl
 | str x=>obtain⟨t,e⟩:=(show ∃ t,u=Value.str x t from r);cases e;rfl
 | Sv b=>obtain⟨t,e⟩:=(show ∃ t,u=Value.bytes b t from r);cases e;rfl
 | flt b=>obtain⟨t,e⟩:=(show ∃ t,u=Value.float b t from r);cases e;rfl
 | ref a=>cases (show u=Value.ref a from r);rfl
 | ty n=>cases (show u=Value.type n from r);rfl
section
variable {P:Program}{w:World}{H H':Hp}{h h':Heap}{a C dx:Addr}{fs fs':List (Str × V)}
theorem Em (hok:rU P w H h) (e:H a=some (.ins C dx fs)):∃ mA,Qc h a dx C mA∧(∀ f,rK (fs.lookup f) (mA f))∧PySem.Within mA (fs.map (·.1))∧fs.length≤1000∧H dx=some (.own a):=by
 obtain⟨d,z,ne,ob,mA,n,r,q⟩:=(show cI P w H h a (.ins C dx fs) from hok a _ e)
 exact⟨mA,⟨ob,n,ne⟩,r,q,z,d⟩
end
structure De (K:PySem.W.Frag) (C:Addr):Prop where
 pg:PySem.W.plainGet K C Str.empty=true
 hd:PySem.W.hasDictIn K C=true
 po:PySem.W.plainOver K C=true
 sa:PySem.W.findIn K (.ref C) "__setattr__" = some (some (.builtin "object.__setattr__"))
theorem De.get {K:PySem.W.Frag}{C:Addr} (c:De K C) (f:Str):PySem.W.plainGet K C f=true:=c.pg
def aL (K:PySem.W.Frag) (C:Addr) (f:Str):Prop:=PySem.W.findIn K (.ref C) f=some none
theorem aL.taker {K:PySem.W.Frag}{C:Addr}{f:Str} (n:aL K C f):PySem.W.takerIn K C f=some none:=by
 unfold PySem.W.takerIn
 rw [show PySem.W.findIn K (.ref C) f=some none from n]
 rfl
structure Con (K:PySem.W.Frag) (C:Addr) (f:Str) (v:V) (u:Value):Prop where
 at_:PySem.W.findIn K (.ref C) f=some (some u)
 rel:RelV v u
 get:PySem.W.specialIn K u "__get__" = some none
 cp:PySem.W.copiedNames.contains f=false
structure Meth (K:PySem.W.Frag) (C:Addr) (m:Str) (f:Addr):Prop where
 at_:PySem.W.findIn K (.ref C) m=some (some (.ref f))
 fn:PySem.W.isFn K (.ref f)=true
 kp:PySem.W.keepIn K (.ref f)=true
section
variable {X:Cx}{pins:List (Addr × Obj)}{σ:St}{H:Hp}{s:Shared}{a C dx:Addr}{fs:List (Str × V)}{f:Str}{v:V}{A:Around}{E:Value→Shared→Prop}
theorem Qd {b:Bool}{Q:Value→Shared→Prop} (I:Inv X pins σ H s) (e:H a=some (.ins C dx fs)) (c:De X.K C) (n:aL X.K C f) (l:fs.lookup f=some v)
   (h:∀ u s',Inv X pins σ H s'→RelV v u→Q u s'):wpAny (model X.prog X.w) A (getAttr (.ref a) f b) Q E s:=by
 obtain⟨mA,O,r,_,_,_⟩:=Em I.hok e
 obtain⟨u,hu,ru⟩:=rK.some_of (v:=v) (o:=mA f) (by rw [← l];exact r f)
 exact get_map I.Dd O (c.get f) c.hd n hu (Ug ru) (h u _ (I.tok _) ru)
theorem vy {m:Str}{g:Addr}{pl:Sem Bool}{Q:Value × List Value→Shared→Prop} (I:Inv X pins σ H s) (e:H a=some (.ins C dx fs)) (c:De X.K C) (k:Meth X.K C m g) (l:fs.lookup m=none)
   (h:Q (.ref g,[.ref a]) s):wpAny (model X.prog X.w) A (getMethod (.ref a) m pl) Q E s:=by
 obtain⟨mA,O,r,_,_,_⟩:=Em I.hok e
 have hn:mA m=none:=rK.none_of (by rw [← l];exact r m)
 exact VJ I.Dd O (c.get m) k.at_ k.fn hn h
theorem Qe {y:V}{u:Value}{Q:Unit→Shared→Prop} (I:Inv X pins σ H s) (e:H a=some (.ins C dx fs)) (c:De X.K C) (n:aL X.K C f) (hl:fs.length<1000) (ry:RelV y u)
   (h:∀ s',Inv X pins σ (upd H a (.ins C dx (qx f y fs))) s'→Q () s'):wpAny (model X.prog X.w) A (setAttr (.ref a) f u) Q E s:=by
 obtain⟨mA,O,r,wi,_,ho⟩:=Em I.hok e
 have hz:(fs.map (·.1)).length≤sizeLine:=by rw [List.length_map,sizeLine_eq];omega
 refine Zt I.Dd O c.sa c.po n.taker c.hd wi hz fun h' O' sb=>h _ ?_
 have hd:∃ o,h'.get? dx=some o:=let ⟨o,_,_,e',_⟩:=O'.ns; ⟨o,e'⟩
 refine I.write (x:=a) (e:=dx) (by rw [e];exact True.intro) (.inr ho) (fun b q hb z=>(sb.2 b hb).trans z) hd ?_
 refine⟨by rw [zI O.ne];exact ho,?_,O.ne,O'.obj,_,O'.ns,fun g=>?_,fun g hg=>?_⟩
 · have:=Ca f y fs;omega
 · show rK ((qx f y fs).lookup g) (if g=f then some u else mA g)
   rw [BZ]
   by_cases q:g=f
   · rw [if_pos q,if_pos q];exact ry
   · rw [if_neg q,if_neg q];exact r g
 · by_cases q:g=f
   · rw [q];exact (z9 f y fs).1
   · refine (z9 f y fs).2 g (wi g fun z=>hg ?_)
     show (if g=f then some u else mA g)=none
     rw [if_neg q];exact z
theorem Inv.made (I:Inv X pins σ H s):Inv X pins σ (upd (upd H s.heap.objs.size (.own (s.heap.objs.size+1))) (s.heap.objs.size+1) (.ins C s.heap.objs.size []))
   { s with heap:=(s.heap.push PySem.W.emptyDict).push (PySem.W.instObj C s.heap.objs.size) }:=by
 have e1:(s.heap.push PySem.W.emptyDict).get? s.heap.objs.size=some PySem.W.emptyDict:=Heap.get?_push_size s.heap rfl
 have e2:((s.heap.push PySem.W.emptyDict).push (PySem.W.instObj C s.heap.objs.size)).get? (s.heap.objs.size+1)=some (PySem.W.instObj C s.heap.objs.size):=by
   have:=Heap.get?_push_size (s.heap.push PySem.W.emptyDict) (o:=PySem.W.instObj C s.heap.objs.size) rfl
   rwa [Heap.size_push] at this
 have e3:(s.heap.push PySem.W.emptyDict).Ns s.heap.objs.size (fun _=>none):=⟨PySem.W.emptyDict,#[],_,e1,rfl,(fun e he=>absurd he (by simp)),fun _=>rfl⟩
 have I1:=I.laid (a:=s.heap.objs.size) (o:=.own (s.heap.objs.size+1)) (h':=s.heap.push PySem.W.emptyDict) (t':=s.toks) (fun b u q=>Heap.get?_push_of_some _ q) (Nat.le_refl _) ⟨_,e1⟩
 refine I1.laid (a:=s.heap.objs.size+1) (o:=.ins C s.heap.objs.size []) (t':=s.toks) (fun b u q=>Heap.get?_push_of_some _ q) (Nat.le_of_eq (Heap.size_push _ _)) ?_
 have ne:s.heap.objs.size≠s.heap.objs.size+1:=Nat.ne_of_lt (Nat.lt_succ_self _)
 refine⟨by rw [zI ne,zB],Nat.zero_le _,ne,e2,fun _=>none,(Heap.Ns1.of_empty e3).at fun o q=>Heap.get?_push_of_some _ q,fun _=>True.intro,fun y hy=>absurd rfl hy⟩
theorem Zu {prog:Program}{w:World}{env:Env}{e:Expr}{f:Str}{pos:Pos}{s:Shared}{Q:Value→Shared→Prop} (hb:attributeBase e f env (eval e env)=eval e env)
   (h:wpAny (model prog w) A (eval e env) (fun o s₁=>wpAny (model prog w) A (getAttr o f true) Q E s₁) E s):wpAny (model prog w) A (eval (.Attribute e f pos) env) Q E s :=
 Attribute_any_ h (by rw [arm_eval_Attribute,hb])
end
def ath (K:PySem.W.Frag) (ta:TE) (f:Str):TE:=fun σ H Q=>ta σ H fun x H1=>∃ a C dx fs v,x=.ref a∧H1 a=some (.ins C dx fs)∧De K C∧aL K C f∧fs.lookup f=some v∧Q v H1
def ati (K:PySem.W.Frag) (ta tv:TE) (f:Str):TS:=fun D σ H=>tv σ H fun y H1=>ta σ H1 fun x H2=>∃ a C dx fs,x=.ref a∧H2 a=some (.ins C dx fs)∧De K C∧aL K C f∧fs.length<1000 ∧
 D.nx σ (upd H2 a (.ins C dx (qx f y fs)))
def atj (X:Cx) (op:Operator) (rd:V→V→Hp→VK→Prop):Prop :=
 ∀ (pins:List (Addr × Obj)) (s:Shared) (σ:St) (H:Hp) (x y:V) (u v:Value) (Q:VK),Inv X pins σ H s→RelV x u→RelV y v→rd x y H Q→wpAny (model X.prog X.w) X.A (inplaceOp op u v) (EP X pins σ Q) X.xe s
section
variable {X:Cx}{o e value:Expr}{f:Str}{pos pos' tpos:Pos}{ta tv:TE}
theorem zO (he:PE X e ta) (hb:attributeBase e f X.env (eval e X.env)=eval e X.env):PE X (.Attribute e f pos) (ath X.K ta f):=by
 intro pins s σ H Q I h
 refine Zu hb (d9 (he pins s σ H _ I h) fun u s1 zq=>?_)
 obtain⟨x,H1,I1,rx,a,C,dx,fs,v,ex,ea,c,n,l,q⟩:=zq
 subst ex
 obtain rfl:u=Value.ref a:=rx
 exact Qd I1 ea c n l fun u' s2 I2 ru=>⟨v,H1,I2,ru,q⟩
theorem yI (ha:PE X o ta) (hv:PE X value tv) (hs:swapsWith value (some (.Attribute o f pos')) pos.line X.env=pure false):PS X (.Assign [.Attribute o f pos'] value pos) (ati X.K ta tv f):=by
 intro pins s σ H D I h
 refine plainObj_wpAny_Assign_Attribute (d9 (hv pins s σ H _ I h) fun u s1 ⟨y,H1,I1,ry,q⟩=>d9 (ha pins s1 σ H1 _ I1 q) fun ov s2 ⟨x,H2,I2,rx,a,C,dx,fs,ex,ea,c,n,l,q2⟩=>?_) hs
 subst ex
 obtain rfl:ov=Value.ref a:=rx
 exact Qe I2 ea c n l ry fun s3 I3=>⟨σ,_,I3,q2⟩
def atk:V→V→Hp→VK→Prop:=fun x y H Q=>∃ i j,x=.int i∧y=.int j∧Q (.int (i+j)) H
theorem VM:atj X .Add atk:=by
 rintro pins s σ H x y u v Q I rx ry ⟨i,j,rfl,rfl,q⟩
 obtain⟨t,rfl⟩:=(show ∃ t,u=Value.int i t from rx)
 obtain⟨t',rfl⟩:=(show ∃ t',v=Value.int j t' from ry)
 exact PyProof.Rows.iadd_int ⟨.int (i+j),H,I.tok _,⟨_,rfl⟩,q⟩
end
section
variable {X:Cx}{pins:List (Addr × Obj)}{σ:St}{H:Hp}{s:Shared}{A:Around}{E:Value→Shared→Prop}{Q:Value→Shared→Prop}{c:Value}{b:Bool}
inductive aB (K:PySem.W.Frag) (H:Hp):V→Value→Prop where
 | non:aB K H .non (.type "NoneType")
 | bl (x:Bool):aB K H (.bl x) (.type "bool")
 | int (i:Int):aB K H (.int i) (.type "int")
 | str (x:Str):aB K H (.str x) (.type "str")
 | flt (x:UInt64):aB K H (.flt x) (.type "float")
 | lst {a:Addr}{xs:List V} (e:H a=some (.lst xs)):aB K H (.ref a) (.type "list")
 | ud {a:Addr}{o:Obj}{xs:List V} (e:H a=some (.ud o (.lst xs))):aB K H (.ref a) (.type "list")
 | tup {a:Addr}{xs:List V} (e:H a=some (.tup xs)):aB K H (.ref a) (.type "tuple")
 | dK {a:Addr}{kvs:List (Key × V)} (e:H a=some (.dK kvs)):aB K H (.ref a) (.type "dict")
 | dT {a:Addr}{kvs:List (List Key × V)} (e:H a=some (.dT kvs)):aB K H (.ref a) (.type "dict")
 | ins {a C dx:Addr}{fs:List (Str × V)} (e:H a=some (.ins C dx fs)) (cl:De K C) (ha:PySem.W.findIn K (.ref C) "__class__" = some (some (.builtin "object.__class__")))
     (hn:PySem.W.specialIn K (.builtin "object.__class__") "__get__" = some (some (.builtin "getset_descriptor.__get__"))) (htk:PySem.W.takesIn K (.builtin "object.__class__")=some true)
     (hm:PySem.W.mroIn K C (.type "object")=some true):aB K H (.ref a) (.ref C)
end
end L2
namespace L2
open PySem PySem.Spec PyProof.Rows
structure fD (k:Nat) (A:Around):Prop where
 hd:A.handled=none
 dp:A.depth+3*k+5<recursionLimit
 un:A.units+16*k+200<cLine
theorem fD.mono {j k:Nat}{A:Around} (r:fD k A) (h:j≤k):fD j A:=⟨r.hd,by have:=r.dp;omega,by have:=r.un;omega⟩
theorem fD.deeper {k:Nat}{A:Around} (r:fD (k+1) A) (env:Env):fD k (A.deeper env) :=
 ⟨r.hd,by have:=r.dp;show A.depth+1+3*k+5<_;omega,by have:=r.un;show A.units+3+16*k+200<_;omega⟩
theorem fD.in1 {k:Nat}{A:Around} (r:fD (k+1) A):fD k A.in1 :=
 ⟨r.hd,by have:=r.dp;show A.depth+3*k+5<_;omega,by have:=r.un;show A.units+1+16*k+200<_;omega⟩
theorem Qf {A:Around}{C:Addr}{us:List Value}{kw:List (Str × Value)}:(A.under (.builtin "type.__call__" ⟨.ref C::us,kw⟩)).depth=A.depth+1:=by
 first | rfl | simp [Around.under,Code.weight,Code.isCreation,Code.isGuard,Code.isCaller,Code.frames,Code.isFrame,guardIds]
theorem Qg {A:Around}{C:Addr}{us:List Value}{kw:List (Str × Value)}:(A.under (.builtin "type.__call__" ⟨.ref C::us,kw⟩)).units=A.units+1:=by
 first | rfl | simp [Around.under,Code.cUnits,Code.frames,Code.isFrame]
theorem fD.make {k:Nat}{A:Around} (r:fD (k+1) A) (C:Addr) (us:List Value) (kw:List (Str × Value)):fD k (A.under (.builtin "type.__call__" ⟨.ref C::us,kw⟩)) :=
 ⟨r.hd,by have:=r.dp;rw [Qf];omega,by have:=r.un;rw [Qg];omega⟩
theorem fD.depth {k:Nat}{A:Around} (r:fD k A):A.depth<recursionLimit:=by have:=r.dp;omega
theorem fD.units {k:Nat}{A:Around} (r:fD k A):A.units+64<cLine:=by have:=r.un;omega
def Qh:TA:=fun _ H Q=>Q [] H
def Jv (ta:TE) (tr:TA):TA:=fun σ H Q=>ta σ H fun x H1=>tr σ H1 fun xs H2=>Q (x::xs) H2
section
variable {X:Cx}{e:Expr}{es:List Expr}{te:TE}{t:TA}{pos:Pos}
theorem zD:PA X [] Qh:=fun _ _ _ _ H Q I h=>Calls.spliced_nil ⟨[],H,I,.nil,h⟩
theorem zA (ha:PE X e te) (hr:PA X es t) (hs:starEach (e::es) X.env=(false,eval e X.env)::starEach es X.env:=by rfl):PA X (e::es) (Jv te t):=by
 intro pos pins s σ H Q I h
 rw [hs]
 show wpAny _ _ (spliced ((false,eval e X.env)::backTo pos (starEach es X.env))) _ _ s
 refine Calls.spliced_cons (d9 (ha pins s σ H _ I h) fun u s1 zq=>?_)
 obtain⟨x,H1,I1,r1,q1⟩:=zq
 exact d9 (hr pos pins s1 σ H1 _ I1 q1) fun us s2 ⟨xs,H2,I2,r2,q2⟩=>⟨x::xs,H2,I2,.cons r1 r2,q2⟩
def atl (t:TA):TE:=fun σ H Q=>t σ H fun xs H1=>xs.length≤sizeLine∧∀ p,H1 p=none→Q (.ref p) (upd H1 p (.tup xs))
def atm (t:TA):TE:=fun σ H Q=>t σ H fun xs H1=>xs.length≤sizeLine∧∀ p,H1 p=none→Q (.ref p) (upd H1 p (.lst xs))
theorem yA {x1} (h:PA X es t):PE X (.Tuple es x1 pos) (atl t):=by
 intro pins s σ H Q I hq
 refine wpAny_Tuple_spliced (d9 (h pos pins s σ H _ I hq) fun us s1 ⟨xs,H1,I1,r,z,q⟩=>⟨by rw [← r.length];exact z,?_⟩)
 have hf:H1 s1.heap.objs.size=none:=I1.hok.fresh (Nat.le_refl _)
 refine⟨.ref s1.heap.objs.size,upd H1 s1.heap.objs.size (.tup xs),I1.laid (t':=s1.toks) (fun b u e=>Heap.get?_push_of_some _ e) (Nat.le_refl _) ?_,rfl,q _ hf⟩
 exact⟨z,us,r,⟨_,Heap.get?_push_size _ rfl,rfl,_,rfl⟩⟩
theorem yJ (h:PA X es t):PE X (.List es pos) (atm t):=by
 intro pins s σ H Q I hq
 refine wpAny_List_spliced (d9 (h pos pins s σ H _ I hq) fun us s1 ⟨xs,H1,I1,r,z,q⟩=>⟨by rw [← r.length];exact z,?_⟩)
 have hf:H1 s1.heap.objs.size=none:=I1.hok.fresh (Nat.le_refl _)
 refine⟨.ref s1.heap.objs.size,upd H1 s1.heap.objs.size (.lst xs),I1.laid (t':=s1.toks) (fun b u e=>Heap.get?_push_of_some _ e) (Nat.le_refl _) ?_,rfl,q _ hf⟩
 exact⟨z,us,0,r,Heap.get?_push_size _ rfl⟩
end
abbrev Sp:=List V→Hp→VK→XK→Prop
abbrev HX:=List Env→Hp→Shared→XK→Value→Shared→Prop
structure wQ (P:Program) (w:World) (K:PySem.W.Frag) (mg:Str→Option Value) (base:Heap) (A:Around) (outer:List Env) (s:Shared) (H:Hp):Prop where
 frames:A.frames=some outer
 mod:Mod K mg base
 bs:∀ b o,base.get? b=some o→s.heap.get? b=some o∧H b=none
 T6:base.objs.size≤s.heap.objs.size
 rW:s.heap.FunFrames base outer
 Vs:∀ b∈frs outer,H b=none
 hok:rU P w H s.heap
 bare:AllBare s.gens
def CE (outer:List Env) (P:Program) (w:World) (H:Hp) (s:Shared) (Q:VK) (u:Value) (s':Shared):Prop :=
 ∃ v H',s'.os=s.os∧AllBare s'.gens∧Un (frs outer) [] H H' s.heap s'.heap∧rU P w H' s'.heap∧RelV v u∧Q v H'
def CR (CX:HX) (outer:List Env) (P:Program) (w:World) (H:Hp) (s:Shared) (Q:VK) (E:XK) (r:Result) (s':Shared):Prop :=
 match r with
 | .ok (.ret u)=>CE outer P w H s Q u s'
 | .ok _=>False
 | .error e=>CX outer H s E e s'
structure aG (P:Program) (w:World) (K:PySem.W.Frag) (mg:Str→Option Value) (base:Heap) (CX:HX) (k:Nat) (f:Addr) (fd:FuncData) (ps:List Str) (sp:Sp):Prop where
 len:∀ vs H Q E,sp vs H Q E→vs.length=ps.length
 run:∀ (A:Around) (outer:List Env) (s:Shared) (H:Hp) (args:Args) (us:List Value) (vs:List V) (Q:VK) (E:XK),fD k A→wQ P w K mg base A outer s H→BindsTo s fd args (ps.zip us)→Vals vs us→sp vs H Q E →
   codeAny (model P w) A (.call (.ref f) args) (CR CX outer P w H s Q E) s
theorem aG.mono {P:Program}{w:World}{K:PySem.W.Frag}{mg:Str→Option Value}{base:Heap}{CX:HX}{j k:Nat}{f:Addr}{fd:FuncData}{ps:List Str}{sp:Sp} (F:aG P w K mg base CX j f fd ps sp) (h:j≤k) :
   aG P w K mg base CX k f fd ps sp:=⟨F.len,fun A outer s H args us vs Q E hr=>F.run A outer s H args us vs Q E (hr.mono h)⟩
theorem aG.imp {P:Program}{w:World}{K:PySem.W.Frag}{mg:Str→Option Value}{base:Heap}{CX:HX}{k:Nat}{f:Addr}{fd:FuncData}{ps:List Str}{sp Fb:Sp} (F:aG P w K mg base CX k f fd ps sp)
   (h:∀ vs H Q E,Fb vs H Q E→sp vs H Q E):aG P w K mg base CX k f fd ps Fb :=
 ⟨fun vs H Q E q=>F.len vs H Q E (h _ _ _ _ q),fun A outer s H args us vs Q E hr he hb hv hs=>F.run A outer s H args us vs Q E hr he hb hv (h _ _ _ _ hs)⟩
theorem wQ.make {P:Program}{w:World}{K:PySem.W.Frag}{mg:Str→Option Value}{base:Heap}{A:Around}{outer:List Env}{s:Shared}{H:Hp} (e:wQ P w K mg base A outer s H) (C:Addr) (us:List Value) (kw:List (Str × Value)) :
   wQ P w K mg base (A.under (.builtin "type.__call__" ⟨.ref C::us,kw⟩)) outer s H:=⟨by first | exact e.frames | (simpa [Around.under,Code.envs,Code.isFrame,pushEnvs] using e.frames),e.mod,e.bs,e.T6,e.rW,e.Vs,e.hok,e.bare⟩
theorem wQ.in1 {P:Program}{w:World}{K:PySem.W.Frag}{mg:Str→Option Value}{base:Heap}{A:Around}{outer:List Env}{s:Shared}{H:Hp} (e:wQ P w K mg base A outer s H) :
   wQ P w K mg base A.in1 outer s H:=⟨e.frames,e.mod,e.bs,e.T6,e.rW,e.Vs,e.hok,e.bare⟩
section
variable {X:Cx}{pins:List (Addr × Obj)}{σ:St}{H:Hp}{s s':Shared}
theorem Inv.env0 (I:Inv X pins σ H s):wQ X.prog X.w X.K X.mg X.base X.A X.stack s H :=
 ⟨I.ok.frames,I.ok.mod,I.bs,Nat.le_trans I.ok.T6 I.sz,I.stack,I.J8,I.hok,I.bare⟩
theorem Inv.after {Q:VK}{u:Value} (I:Inv X pins σ H s) (h:CE X.stack X.prog X.w H s Q u s'):EP X pins σ Q u s':=by
 obtain⟨v,H',os,bare,un,hok,r,q⟩:=h
 obtain⟨hh,g,d,t,os'⟩:=s'
 obtain rfl:os'=s.os:=os
 exact⟨v,H',I.call (h':=hh) (g':=g) (d':=d) (t':=t) (ch:=[]) un hok bare (fun b z=>absurd z (by simp)),r,q⟩
end
def VN (sp:Sp) (rE:List V) (E:XK) (t:TA):TE:=fun σ H Q=>t σ H fun vs H1=>sp (vs++rE) H1 Q E
def aa1 (C:Addr) (sp:Sp) (rE:List V) (E:XK) (t:TA):TE:=fun σ H Q=>t σ H fun vs H1=>∀ x dx,H1 x=none→H1 dx=none→dx≠x →
 sp (.ref x::(vs++rE)) (upd (upd H1 dx (.own x)) x (.ins C dx [])) (fun v H2=>v=.non∧Q (.ref x) H2) E
def Binds (K:PySem.W.Frag) (fd:FuncData) (ps:List Str) (ds:List Value):Prop :=
 ∀ (s:Shared) (us:List Value),K.In s.heap→(us++ds).length=ps.length→BindsTo s fd ⟨us,[]⟩ (ps.zip (us++ds))
theorem Binds.all {K:PySem.W.Frag}{fd:FuncData}{ps:List Str} (h:∀ us:List Value,us.length=ps.length→bindArgs fd ⟨us,[]⟩=pure (ps.zip us)):Binds K fd ps []:=fun s us _ hl=>by
 rw [List.append_nil] at hl ⊢
 exact .of_eq (h us hl)
def Passes (CX:HX) (X:Cx) (E:XK):Prop:=∀ (pins:List (Addr × Obj)) (σ:St) (H:Hp) (s:Shared) (e:Value) (s':Shared),Inv X pins σ H s→CX X.stack H s E e s'→X.xe e s'
section
variable {X:Cx}{CX:HX}{k:Nat}{f C:Addr}{fd:FuncData}{ps:List Str}{sp:Sp}{rE:List V}{ds:List Value}{E:XK}{x m:Str}{p pos apos:Pos}{e o:Expr}{es:List Expr}{ta:TE}{t:TA}
theorem Kf {pins:List (Addr × Obj)}{σ:St}{H:Hp}{s:Shared}{Q:VK}{us:List Value}{vs:List V} (F:aG X.prog X.w X.K X.mg X.base CX k f fd ps sp) (hr:fD k X.A) (hb:Binds X.K fd ps ds) (hd:Vals rE ds) (hx:Passes CX X E)
   (I:Inv X pins σ H s) (r:Vals vs us) (h:sp (vs++rE) H Q E):wpAny (model X.prog X.w) X.A (call (.ref f) us) (EP X pins σ Q) X.xe s:=by
 have r2:Vals (vs++rE) (us++ds):=r.append hd
 have hl:(us++ds).length=ps.length:=by rw [← r2.length];exact F.len _ _ _ _ h
 refine wpAny_call (codeAny_mono (F.run X.A X.stack s H ⟨us,[]⟩ (us++ds) (vs++rE) Q E hr I.env0 (hb s us I.Dd hl) r2 h) fun r s' hq=>?_)
 cases r with
 | error e=>exact hx pins σ H s e s' I hq
 | ok fl =>
   cases fl with
   | ret u=>exact I.after hq
   | next=>exact False.elim hq
   | brk=>exact False.elim hq
   | cont=>exact False.elim hq
theorem zU (F:aG X.prog X.w X.K X.mg X.base CX k f fd ps sp) (hr:fD k X.A) (hg:Gl X x) (hm:X.mg x=some (.ref f)) (hk:PySem.W.keepIn X.K (.ref f)=true) (hb:Binds X.K fd ps ds) (hd:Vals rE ds) (hx:Passes CX X E)
   (ha:PA X (e::es) t) (hdb:(x == ("__debug__":Str))=false:=by decide) (he:starEach (e::es) X.env=(false,eval e X.env)::starEach es X.env:=by rfl) (hpl:(backTo pos (starEach es X.env)).any (·.1)=false:=by rfl) :
   PE X (.Call (.Name x p) (e::es) [] pos) (VN sp rE E t):=by
 intro pins s σ H Q I h
 refine wpAny_Call_Name_kw (qu I hg hm ?_ hdb)
 refine PySem.W.callWith_K (h₀:=X.base) I.ok.mod.Zi hk (d9 (ha pos pins s σ H _ I h) fun us s1 ⟨vs,H1,I1,r,q⟩=>⟨I1.Dd,?_⟩) he hpl
 exact Kf F hr hb hd hx I1 r q
structure Mk (K:PySem.W.Frag) (C f:Addr):Prop where
 makes:PySem.W.makesIn K C=true
 init:PySem.W.findIn K (.ref C) "__init__" = some (some (.ref f))
 fn:PySem.W.isFn K (.ref f)=true
 kp:PySem.W.keepIn K (.ref C)=true
theorem MN {pins:List (Addr × Obj)}{σ:St}{H:Hp}{s:Shared}{Q:VK}{us:List Value}{vs:List V} (M:Mk X.K C f) (F:aG X.prog X.w X.K X.mg X.base CX k f fd ps sp) (hr:fD (k+1) X.A) (hb:Binds X.K fd ps ds) (hd:Vals rE ds)
   (hx:Passes CX X E) (I:Inv X pins σ H s) (r:Vals vs us)
   (h:∀ x dx,H x=none→H dx=none→dx≠x→sp (.ref x::(vs++rE)) (upd (upd H dx (.own x)) x (.ins C dx [])) (fun v H2=>v=.non∧Q (.ref x) H2) E) :
   wpAny (model X.prog X.w) X.A (call (.ref C) us) (EP X pins σ Q) X.xe s:=by
 have hq:=h (s.heap.objs.size+1) s.heap.objs.size (I.hok.fresh (Nat.le_succ _)) (I.hok.fresh (Nat.le_refl _)) (Nat.ne_of_lt (Nat.lt_succ_self _))
 have I2:=Inv.made (C:=C) I
 have r2:Vals (V.ref (s.heap.objs.size+1)::(vs++rE)) (Value.ref (s.heap.objs.size+1)::(us++ds)):=.cons rfl (r.append hd)
 have hl:(Value.ref (s.heap.objs.size+1)::us++ds).length=ps.length:=by
   have e:=r2.length
   rw [F.len _ _ _ _ hq] at e
   exact e.symm
 refine wpAny_call (VL (f:=f) I.Dd M.makes M.init (beq_iff_eq.mp M.fn) (codeAny_mono (F.run _ X.stack _ _ ⟨Value.ref (s.heap.objs.size+1)::us,[]⟩ (Value.ref (s.heap.objs.size+1)::(us++ds)) _ _ E (hr.make C us [])
   (I2.env0.make C us []) (hb _ (Value.ref (s.heap.objs.size+1)::us) I2.Dd hl) r2 hq) fun r s' hq'=>?_))
 cases r with
 | error e=>exact hx pins σ _ _ e s' I2 hq'
 | ok fl =>
   cases fl with
   | ret u =>
     obtain⟨v,H',I3,rv,ev,q3⟩:=I2.after hq'
     subst ev
     exact⟨rv,⟨V.ref (s.heap.objs.size+1),H',I3,rfl,q3⟩⟩
   | next=>exact False.elim hq'
   | brk=>exact False.elim hq'
   | cont=>exact False.elim hq'
theorem xA (M:Mk X.K C f) (F:aG X.prog X.w X.K X.mg X.base CX k f fd ps sp) (hr:fD (k+1) X.A) (hg:Gl X x) (hm:X.mg x=some (.ref C)) (hb:Binds X.K fd ps ds) (hd:Vals rE ds) (hx:Passes CX X E)
   (ha:PA X (e::es) t) (hdb:(x == ("__debug__":Str))=false:=by decide) (he:starEach (e::es) X.env=(false,eval e X.env)::starEach es X.env:=by rfl) (hpl:(backTo pos (starEach es X.env)).any (·.1)=false:=by rfl) :
   PE X (.Call (.Name x p) (e::es) [] pos) (aa1 C sp rE E t):=by
 intro pins s σ H Q I h
 refine wpAny_Call_Name_kw (qu I hg hm ?_ hdb)
 refine PySem.W.callWith_K (h₀:=X.base) I.ok.mod.Zi M.kp (d9 (ha pos pins s σ H _ I h) fun us s1 ⟨vs,H1,I1,r,q⟩=>⟨I1.Dd,?_⟩) he hpl
 exact MN M F hr hb hd hx I1 r q
theorem MP (M:Mk X.K C f) (F:aG X.prog X.w X.K X.mg X.base CX k f fd ps sp) (hr:fD (k+1) X.A) (hg:Gl X x) (hm:X.mg x=some (.ref C)) (hb:Binds X.K fd ps ds) (hd:Vals rE ds) (hx:Passes CX X E)
   (hdb:(x == ("__debug__":Str))=false:=by decide):PE X (.Call (.Name x p) [] [] pos) (aa1 C sp rE E Qh):=by
 intro pins s σ H Q I h
 refine wpAny_Call_Name_kw (qu I hg hm ?_ hdb)
 exact PySem.W.callWith_K0 I.Dd M.kp (MN (us:=[]) M F hr hb hd hx I .nil h)
end
section
variable {X:Cx}{CX:HX}{k:Nat}{f C:Addr}{fd:FuncData}{ps ks:List Str}{sp:Sp}{E:XK}{x m:Str}{p pos apos aEJ:Pos}{e o:Expr}{es:List Expr}{kws:List Keyword}{te ta:TE}{t tk:TA}{nm:Option Str}
structure atn (K:PySem.W.Frag) (fd:FuncData) (ps ks:List Str) (g:List Value→List Value→List Value) (gV:List V→List V→List V):Prop where
 to:∀ (s:Shared) (us ws:List Value),K.In s.heap→(g us ws).length=ps.length→BindsTo s fd ⟨us,ks.zip ws⟩ (ps.zip (g us ws))
 rel:∀ {vs:List V}{us:List Value}{zs:List V}{ws:List Value},Vals vs us→Vals zs ws→Vals (gV vs zs) (g us ws)
variable {g:List Value→List Value→List Value}{gV:List V→List V→List V}
end
structure au (N P:List Str) (sc:Scope):Prop where
 kind:sc.kind=.function
 co:sc.isCoroutine=false
 gen:sc.isGenerator=false
 nd:N.Nodup
 pre:N.take P.length=P
 par:∀ x∈P,sc.names.lookup x=some .local∨sc.names.lookup x=some .cell
 abY:∀ y∈sc.names,y.2≠.free
theorem Jw {kindOf:Str→Option NameKind}{x:Str}:∀ {binds:List (Str × Value)}{m:Str→Option Value},(∀ v,(x,v)∉binds)→bindL kindOf binds m x=m x
 | [],_,_=>rfl
 | (n,v)::r,m,h=>by
   unfold bindL
   rw [Jw fun w hw=>h w (List.mem_cons_of_mem _ hw)]
   split
   · have:x≠n:=by rintro rfl;exact h v List.mem_cons_self
     simp [this]
   · rfl
theorem Jx {kindOf:Str→Option NameKind}{x:Str}:∀ {binds:List (Str × Value)}{m:Str→Option Value},(∀ v,(x,v)∉binds)→bindC kindOf binds m x=m x
 | [],_,_=>rfl
 | (n,v)::r,m,h=>by
   unfold bindC
   rw [Jx fun w hw=>h w (List.mem_cons_of_mem _ hw)]
   split
   · rfl
   · have:x≠n:=by rintro rfl;exact h v List.mem_cons_self
     simp [this]
theorem Jy {kindOf:Str→Option NameKind}{x:Str}{v:Value}:∀ {P:List Str}{vs:List Value}{i:Nat}{m:Str→Option Value},P.Nodup→P[i]? = some x→vs[i]? = some v→kindOf x=some .local →
   bindL kindOf (P.zip vs) m x=some v
 | [],_,_,_,_,h,_,_=>by simp at h
 | _::_,[],_,_,_,_,h,_=>by simp at h
 | p::P,w::vs,0,m,nd,h1,h2,hk=>by
   simp at h1 h2;subst h1;subst h2
   show bindL kindOf ((p,w)::P.zip vs) m p=_
   unfold bindL
   rw [Jw fun v hv=>(List.nodup_cons.mp nd).1 (List.of_mem_zip hv).1,if_pos hk]
   simp
 | p::P,w::vs,i+1,m,nd,h1,h2,hk=>by
   show bindL kindOf ((p,w)::P.zip vs) m x=_
   unfold bindL
   exact Jy (i:=i) (List.nodup_cons.mp nd).2 (by simpa using h1) (by simpa using h2) hk
theorem Jz {kindOf:Str→Option NameKind}{x:Str}{v:Value}:∀ {P:List Str}{vs:List Value}{i:Nat}{m:Str→Option Value},P.Nodup→P[i]? = some x→vs[i]? = some v→kindOf x≠some .local →
   bindC kindOf (P.zip vs) m x=some v
 | [],_,_,_,_,h,_,_=>by simp at h
 | _::_,[],_,_,_,_,h,_=>by simp at h
 | p::P,w::vs,0,m,nd,h1,h2,hk=>by
   simp at h1 h2;subst h1;subst h2
   show bindC kindOf ((p,w)::P.zip vs) m p=_
   unfold bindC
   rw [Jx fun v hv=>(List.nodup_cons.mp nd).1 (List.of_mem_zip hv).1,if_neg hk]
   simp
 | p::P,w::vs,i+1,m,nd,h1,h2,hk=>by
   show bindC kindOf ((p,w)::P.zip vs) m x=_
   unfold bindC
   exact Jz (i:=i) (List.nodup_cons.mp nd).2 (by simpa using h1) (by simpa using h2) hk
def start (N:List Str) (vs:List V):St:=vs.map some++List.replicate (N.length - vs.length) none
def Kg (CX:HX) (P:Program) (w:World) (K:PySem.W.Frag) (mg:Str→Option Value) (base:Heap) (N:List Str) (qual:Str) (scope:Scope) (f:Addr) (cd:Value) (A:Around) (outer:List Env) (s:Shared) (H:Hp) (E:XK):Cx where
 prog:=P
 w:=w
 K:=K
 mg:=mg
 base:=base
 A:=A.deeper (envOfC qual scope s.heap.objs.size f cd)
 N:=N
 s₀:=s
 H₀:=H
 env:=envOfC qual scope s.heap.objs.size f cd
 outer:=outer
 stack:=envOfC qual scope s.heap.objs.size f cd::outer
 ex:=[]
 calm:=true
 fn:=fun _=>true
 pn:=[]
 xe:=fun e s'=>wpAny (model P w) (A.deeper (envOfC qual scope s.heap.objs.size f cd)) (leaving (envOfC qual scope s.heap.objs.size f cd) e) (fun _ s''=>CX outer H s E e s'') (fun e' s''=>CX outer H s E e' s'') s'
theorem MT {sc:Scope}{n:Nat}{x:Str} (h:sc.names.lookup x=some .cell):∃ c,(cellsFrom n sc.names []).lookup x=some c:=by
 have q:=PySem.W.cellsFrom_some sc.names n [] (.inl h)
 exact Option.isSome_iff_exists.mp q
theorem Uh {CX:HX}{P:Program}{w:World}{K:PySem.W.Frag}{mg:Str→Option Value}{base:Heap}{N ps:List Str}{qual:Str}{scope:Scope}{f:Addr}{cd:Value}{A:Around}{outer:List Env}{s s1:Shared}{H:Hp}{E:XK}{us:List Value}{vs:List V}
   (S:au N ps scope) (hd:A.handled=none) (e0:wQ P w K mg base A outer s H) (hl:vs.length=ps.length) (r:Vals vs us)
   (x:InCallC s s.heap.objs.size (bindL (envOfC qual scope s.heap.objs.size f cd).kindOf (ps.zip us) fun _=>none) (cellsFrom (s.heap.objs.size+1) scope.names []) (bindC (envOfC qual scope s.heap.objs.size f cd).kindOf (ps.zip us) fun _=>none) s1) :
   Inv (Kg CX P w K mg base N qual scope f cd A outer s H E) [] (start N vs) H s1:=by
 have hpl:ps.length≤N.length:=by have:=congrArg List.length S.pre;rw [List.length_take] at this;omega
 obtain⟨h1,tk,rfl,hk⟩:=x.done
 have Zv:∀ b:Addr,b∉(Kg CX P w K mg base N qual scope f cd A outer s H E).ex:=fun b z=>absurd (show b∈([]:List Addr) from z) (by simp)
 refine⟨⟨e0.mod,S.kind,rfl,rfl,Nat.le_refl _,fun y z c h1 h2=>?_,fun y hy=>?_,fun y c _ h=>?_,fun _=>hd,Around.frames_deeper e0.frames,.inr ⟨rfl,rfl⟩,fun b z=>absurd z (Zv b),e0.bs,e0.T6,fun b _ _=>Zv b,fun b z=>absurd z (Zv b),e0.rW,e0.Vs⟩,
   rfl,e0.bare,Un.kept hk,⟨_,x.toInCall.ns,fun i y v h1 h2 h3=>?_⟩,fun y c h=>⟨_,x.cell y c h⟩,e0.hok.fresh (Nat.le_refl _),fun y c h=>?_,fun p hp=>absurd (show p∈([]:List (Addr × Obj)) from hp) (by simp),e0.hok.kept hk,?_⟩
 · exact name_of_addr x.apart (PySem.mem_of_lookup h1) (PySem.mem_of_lookup h2)
 · have hy:scope.names.lookup y=some .cell∨scope.names.lookup y=some .free:=hy
   rcases hy with hy | hy
   · exact MT hy
   · exact absurd rfl (S.abY _ (PySem.mem_of_lookup hy))
 · exact Nat.le_of_lt (x.above y c (PySem.mem_of_lookup h))
 · have hi:i<vs.length:=by
     unfold start at h2
     by_cases hi:i<vs.length
     · exact hi
     · rw [List.getElem?_append_right (by simpa using hi)] at h2
       rw [List.getElem?_replicate] at h2
       split at h2 <;> cases h2
   have ha:vs[i]? = some v:=by
     unfold start at h2
     rw [List.getElem?_append_left (by simpa using hi),List.getElem?_map] at h2
     cases e:vs[i]? with
     | none=>rw [e] at h2;cases h2
     | some a=>rw [e] at h2;cases h2;rfl
   obtain⟨u,hu,rv⟩:=r.get ha
   have hp:ps[i]? = some y:=by
     rw [← S.pre,List.getElem?_take_of_lt (by omega)];exact h1
   have ndP:ps.Nodup:=by rw [← S.pre];exact S.nd.sublist (List.take_sublist _ _)
   refine⟨u,rv,?_⟩
   rcases S.par y (List.mem_of_getElem? hp) with k | k
   · exact .inl ⟨k,Jy ndP hp hu k⟩
   · obtain⟨c,e⟩:=MT (n:=s.heap.objs.size+1) k
     refine .inr ⟨.inl k,c,e,?_⟩
     have q:=x.cell y c e
     rw [Jz ndP hp hu (by show scope.names.lookup y≠_;rw [k];decide)] at q
     exact q
 · exact e0.hok.fresh (Nat.le_of_lt (x.above y c (PySem.mem_of_lookup h)))
 · unfold start
   show _=N.length
   rw [List.length_append,List.length_map,List.length_replicate]
   omega
theorem SN {CX:HX}{P:Program}{w:World}{K:PySem.W.Frag}{mg:Str→Option Value}{base:Heap}{k:Nat}{f:Addr}{name qual:Str}{params:Arguments}{body:List Stmt}{scope:Scope}{dV kV doc pm cdv ct oc:Value}{an od:Option Addr}
   {osl:Array (Option Value)}{N ps:List Str}{sp:Sp} (lk:K.lookup f=some ⟨oc,od,.func (PySem.W.fnOf name qual params body scope dV kV doc pm an cdv ct),osl⟩) (hcd:PySem.W.codeIn K cdv qual=true) (S:au N ps scope)
   (len:∀ vs H Q E,sp vs H Q E→vs.length=ps.length)
   (hbody:∀ (A:Around) (outer:List Env) (s:Shared) (H:Hp) (vs:List V) (Q:VK) (E:XK),fD k (A.deeper (envOfC qual scope s.heap.objs.size f cdv))→sp vs H Q E →
     ∃ t,m6 (Kg CX P w K mg base N qual scope f cdv A outer s H E) body t∧t { nx:=fun _ H'=>Q .non H',rt:=Q } (start N vs) H) :
   aG P w K mg base CX (k+1) f (PySem.W.fnOf name qual params body scope dV kV doc pm an cdv ct) ps sp:=by
 refine⟨len,fun A outer s H args us vs Q E hr e0 hb r hsp=>?_⟩
 have hl:=len _ _ _ _ hsp
 have KX:K.In s.heap:=e0.mod.Zi.keeps fun b o e=>(e0.bs b o e).1
 have lim:s.heap.NoLimit:=e0.mod.nolimit.keeps fun b o e=>(e0.bs b o e).1
 have hkind:∀ y∈ps.zip us,scope.names.lookup y.1=some .local∨(scope.names.lookup y.1=some .cell∧((cellsFrom (s.heap.objs.size+1) scope.names []).lookup y.1).isSome=true):=fun⟨n,v⟩ hy=>by
   rcases S.par n (List.of_mem_zip hy).1 with q | q
   · exact .inl q
   · exact .inr ⟨q,PySem.W.cellsFrom_some _ _ _ (.inl q)⟩
 refine codeAny_call_function hr.depth (KX _ _ lk) rfl S.co S.gen rfl (PySem.W.codeRec_of KX hcd) (hb _ _ _ _ ?_)
 refine wpAny_newFunctionEnv_cells S.kind hkind fun env he s1 x=>?_
 subst he
 refine⟨lim.keeps x.toInCall.keep,codeAny_func ?_⟩
 obtain⟨t,ht,hq⟩:=hbody A outer s H vs Q E (hr.deeper _) hsp
 have I:Inv (Kg CX P w K mg base N qual scope f cdv A outer s H E) [] (start N vs) H s1:=Uh S hr.hd e0 hl r x
 refine wpAny_mono (ht [] s1 (start N vs) H _ I hq) (fun fl s' hs=>?_) fun e s' hs=>hs
 have fin:∀ {σ':St}{H':Hp}{v:V}{u:Value},Inv (Kg CX P w K mg base N qual scope f cdv A outer s H E) [] σ' H' s'→RelV v u→Q v H'→CE outer P w H s Q u s' :=
   fun {σ' H' v u} J rv q=>⟨v,H',J.os,J.bare,J.base,J.hok,rv,q⟩
 cases fl with
 | ret u =>
   obtain⟨v,σ',H',J,rv,q⟩:=hs
   exact fin J rv q
 | next =>
   obtain⟨σ',H',J,q⟩:=hs
   exact fin (v:=V.non) (u:=Value.none) J rfl q
 | brk =>
   obtain⟨_,_,_,q⟩:=hs
   exact False.elim q
 | cont =>
   obtain⟨_,_,_,q⟩:=hs
   exact False.elim q
end L2
namespace L2
open PySem PySem.Spec PyProof.Rows
section
variable {X:Cx}{x:Str}{p pos:Pos}{e:Expr}{es:List Expr}{t:TA}{id T:String}{r:List V→Hp→VK→Prop}
def tCB (r:List V→Hp→VK→Prop) (t:TA):TE:=fun σ H Q=>t σ H fun vs H1=>r vs H1 Q
theorem zW (hc:cg X (.builtin id) r) (hg:Gl X x) (hm:X.mg x=none) (hv:bootBuiltins x=some (.builtin id)) (ha:PA X (e::es) t) (hn:x≠"__name__":=by decide) (hdb:(x == ("__debug__":Str))=false:=by decide)
   (he:starEach (e::es) X.env=(false,eval e X.env)::starEach es X.env:=by rfl) (hpl:(backTo pos (starEach es X.env)).any (·.1)=false:=by rfl):PE X (.Call (.Name x p) (e::es) [] pos) (tCB r t):=by
 intro pins s σ H Q I h
 refine wpAny_Call_Name_kw (J9 I hg hm hv ?_ hn hdb)
 exact PyProof.Rows.callWith_builtin1 (d9 (ha pos pins s σ H _ I h) fun us s1 ⟨vs,H1,I1,r1,q1⟩=>hc pins s1 σ H1 vs us Q I1 r1 q1) he hpl
theorem xQ (hc:cg X (.type T) r) (hg:Gl X x) (hm:X.mg x=none) (hv:bootBuiltins x=some (.type T)) (ha:PA X (e::es) t) (hn:x≠"__name__":=by decide) (hdb:(x == ("__debug__":Str))=false:=by decide)
   (he:starEach (e::es) X.env=(false,eval e X.env)::starEach es X.env:=by rfl) (hpl:(backTo pos (starEach es X.env)).any (·.1)=false:=by rfl):PE X (.Call (.Name x p) (e::es) [] pos) (tCB r t):=by
 intro pins s σ H Q I h
 refine wpAny_Call_Name_kw (J9 I hg hm hv ?_ hn hdb)
 exact PyProof.Rows.callWith_type1 (d9 (ha pos pins s σ H _ I h) fun us s1 ⟨vs,H1,I1,r1,q1⟩=>hc pins s1 σ H1 vs us Q I1 r1 q1) he hpl
end
end L2
namespace HT
open PySem PyProof.Rows
section
open PySem.SeqAt
open PySem.AutoSeq1 (wpAny_loadPart')
open PySem.MeetsSeq PySem.MeetsSeq2 PySem.MeetsSeq3
end
section
variable {prog:Program}{w:World}{A:Around}{E:Value→Shared→Prop}{s:Shared}
theorem Zw {t b:Addr}{vs ws:List Value}{Q:Value→Shared→Prop} (ht:IsTup s.heap t vs.toArray) (hb:IsTup s.heap b ws.toArray) (hv:vs≠[])
   (h1:ws=[]→Q (.ref t) s) (h2:ws≠[]→Q (.ref s.heap.objs.size) { s with heap:=s.heap.push { cls:=.type "tuple",data:=.seq (vs++ws).toArray } })
   (hsz:vs.length+ws.length≤sizeLine):wpAny (model prog w) A (binaryOp .Add (.ref t) (.ref b)) Q E s:=by
 obtain⟨⟨cls,dd,data,sl⟩,ho,hc,n,hd⟩:=id ht
 obtain⟨⟨cls2,dd2,data2,sl2⟩,ho2,hc2,n2,hd2⟩:=id hb
 simp only at hc hd hc2 hd2
 subst hc hd hc2 hd2
 have e:vs.toArray++ws.toArray=(vs++ws).toArray:=by simp
 by_cases hw:ws=[]
 · exact concat_meets ⟨_,ho,rfl⟩ ⟨_,ho2,rfl⟩ noFill_tuple_add seq_tuple_add PySem.F.slot_tuple_add PySem.F.entry_tuple_add (PySem.F.args_tuple_add_2 _ _)
     (tuple_addW1 t b vs.toArray ws.toArray n n2 dd dd2 sl sl2 (by simpa using hv) (by simp [hw])) ⟨ho,ho2,h1 hw⟩
 · refine concat_meets ⟨_,ho,rfl⟩ ⟨_,ho2,rfl⟩ noFill_tuple_add seq_tuple_add PySem.F.slot_tuple_add PySem.F.entry_tuple_add (PySem.F.args_tuple_add_2 _ _)
     (tuple_addW2 t b vs.toArray ws.toArray n n2 dd dd2 sl sl2 (by simpa using hv) (by simpa using hw) (by rw [List.size_toArray,List.size_toArray];exact hsz)) ⟨ho,ho2,?_⟩
   rw [e]
   exact h2 hw
def gq (n d:Nat):Option Int→Nat
 | none=>d
 | some v=>if v<0 then (v+(n:Int)).toNat else min v.toNat n
theorem Fd (n d:Nat):gq n d none=d:=rfl
theorem Kh (n d k:Nat):gq n d (some (k:Int))=min k n:=by
 show (if (k:Int)<0 then ((k:Int)+(n:Int)).toNat else min (k:Int).toNat n)=min k n
 rw [if_neg (by omega),Int.toNat_natCast]
theorem abZ (n d:Nat) (hd:d≤n) (o:Option Int):gq n d o≤n:=by
 cases o with
 | none=>exact hd
 | some v =>
   show (if v<0 then (v+(n:Int)).toNat else min v.toNat n)≤n
   by_cases hv:v<0
   · rw [if_pos hv];omega
   · rw [if_neg hv];exact Nat.min_le_right _ _
theorem SQ (v:Int) (n d:Nat):(if v<0 then max (v+(n:Int)) 0 else min v (n:Int))=((gq n d (some v):Nat):Int):=by
 show (if v<0 then max (v+(n:Int)) 0 else min v (n:Int))=(((if v<0 then (v+(n:Int)).toNat else min v.toNat n):Nat):Int)
 by_cases hv:v<0
 · simp only [if_pos hv];omega
 · simp only [if_neg hv];omega
theorem Qi (lo hi:Option Int) (n:Nat):Builtin.Slice.sliceAdjust lo hi 1 (n:Int)=(((gq n 0 lo:Nat):Int),((gq n n hi:Nat):Int)):=by
 have h1:¬ ((1:Int)<0):=by omega
 unfold Builtin.Slice.sliceAdjust
 simp only [h1,if_false]
 refine Prod.ext ?_ ?_
 · cases lo with
   | none=>rfl
   | some v=>exact SQ v n 0
 · cases hi with
   | none=>rfl
   | some v=>exact SQ v n n
theorem Qj (i j:Nat):Builtin.Slice.slicePlaces (i:Int) (j:Int) 1=j - i:=by
 unfold Builtin.Slice.slicePlaces
 have h1:(1:Int) > 0:=by omega
 simp only [h1,if_true,Int.ediv_one]
 split <;> omega
theorem Fe {v:Value}{o:Option Int}{Q:Option Int→Shared→Prop} (p:IsPart v o) (h:Q o s):wpAny (model prog w) A (Builtin.Slice.slicePartIndex v) Q E s:=by
 cases p with
 | none=>exact slicePart_none h
 | int i t=>exact slicePart_int h
theorem pX {sl:Addr}{vl vu:Value}{lo hi:Option Int}{n:Nat}{Q:Int × Int × Nat→Shared→Prop} (hs:s.heap.IsSliceOf sl vl vu .none) (pl:IsPart vl lo) (pu:IsPart vu hi)
   (h:Q (((gq n 0 lo:Nat):Int),1,gq n n hi - gq n 0 lo) s):wpAny (model prog w) A (Builtin.Slice.sliceApplied (.ref sl) (pure (n:Int))) Q E s:=by
 obtain⟨os,hos,hcs,hds⟩:=id hs
 unfold Builtin.Slice.sliceApplied Builtin.Slice.sliceFields
 refine wpAny_bind (wpAny_bind (wpAny_field hos hds (x:=vl) rfl (wpAny_bind (wpAny_field hos hds (x:=vu) rfl (wpAny_bind (wpAny_field hos hds (x:=.none) rfl (wpAny_pure ?_)))))))
 refine wpAny_bind (slicePart_none ?_)
 show wpAny _ _ (if ((1:Int) == 0)=true then _ else _) _ _ s
 rw [if_neg (by decide)]
 refine wpAny_bind (Fe pl (wpAny_bind (Fe pu (wpAny_bind (wpAny_pure ?_)))))
 show wpAny _ _ (match Builtin.Slice.sliceAdjust lo hi 1 (n:Int) with | (lo,hi)=>pure (lo,(1:Int),Builtin.Slice.slicePlaces lo hi 1)) _ _ s
 rw [Qi lo hi n]
 show wpAny _ _ (pure (((gq n 0 lo:Nat):Int),(1:Int),Builtin.Slice.slicePlaces ((gq n 0 lo:Nat):Int) ((gq n n hi:Nat):Int) 1)) _ _ s
 rw [Qj]
 exact wpAny_pure h
theorem VP (xs:Array Value) (i k:Nat):((List.range k).filterMap fun (m:Nat)=>xs[((i:Int)+(m:Int)*1).toNat]?).toArray=((xs.toList.drop i).take k).toArray:=by
 have e:(fun (m:Nat)=>xs[((i:Int)+(m:Int)*1).toNat]?)=fun m=>xs[i+m]?:=by
   funext m
   have:((i:Int)+(m:Int)*1).toNat=i+m:=by omega
   rw [this]
 rw [e]
 have:=pick_run xs i k
 rw [List.filterMap_map] at this
 have e2:((fun x=>xs[x]?) ∘ fun x=>i+x)=fun m=>xs[i+m]?:=rfl
 rw [e2] at this
 rw [this]
theorem wR {t sl:Addr}{items:Array Value}{vl vu:Value}{lo hi:Option Int}{Q:Value→Shared→Prop} (ht:IsTup s.heap t items) (hs:s.heap.IsSliceOf sl vl vu .none) (pl:IsPart vl lo) (pu:IsPart vu hi)
   (hw:¬ (gq items.size 0 lo=0∧gq items.size items.size hi=items.size))
   (h:Q (.ref s.heap.objs.size) { s with heap:=s.heap.push { cls:=.type "tuple",data:=.seq ((items.toList.drop (gq items.size 0 lo)).take (gq items.size items.size hi - gq items.size 0 lo)).toArray } })
   (hsz:items.size≤sizeLine):wpAny (model prog w) A (getItem (.ref t) (.ref sl)) Q E s:=by
 have SX:sizeOk (.seq ((items.toList.drop (gq items.size 0 lo)).take (gq items.size items.size hi - gq items.size 0 lo)).toArray):=by
   show ((items.toList.drop (gq items.size 0 lo)).take (gq items.size items.size hi - gq items.size 0 lo)).toArray.size≤sizeLine
   rw [List.size_toArray,List.length_take,List.length_drop,Array.length_toList]
   omega
 have hj:gq items.size items.size hi≤items.size:=abZ _ _ (Nat.le_refl _) hi
 obtain⟨os,hos,hcs,hds⟩:=id hs
 have hTs:s.TypeIs (.ref sl) "slice":=⟨os,hos,hcs⟩
 unfold getItem
 try with_reducible refine wpAny_holding ?_
 first | refine wpAny_bind (wpAny_pure ?_) | skip
 refine wpAny_bind (wpAny_sequenceKey ht.typeIs (by decide) ?_)
 refine wpAny_bind (wpAny_callSpecial?_slot (name:=‹"__getitem__"›) ht.typeIs PyProof.Rows.slot_tuple_getitem
   (wpAny_call_entry PyProof.Rows.slot_tuple_getitem ht.typeIs entry_tuple_getitem ?_ (args_tuple_getitem _ _)))
 show wpAny _ _ (Builtin.Tuple.tupleItemsOf (.ref t) >>= _) _ _ s
 refine wpAny_bind (tupleItemsOf_ ht ?_)
 refine wpAny_bind (wpAny_typeOf hTs ?_)
 rw [if_pos (by decide)]
 refine wpAny_bind (pX hs pl pu ?_)
 have hno:¬ ((((gq items.size 0 lo:Nat):Int) == 0 && (1:Int) == 1 && (gq items.size items.size hi - gq items.size 0 lo) == items.size)=true):=by
   intro q
   rw [Bool.and_eq_true,Bool.and_eq_true] at q
   have q1:((gq items.size 0 lo:Nat):Int)=0:=eq_of_beq q.1.1
   have q2:gq items.size items.size hi - gq items.size 0 lo=items.size:=eq_of_beq q.2
   exact hw ⟨by omega,by omega⟩
 show wpAny _ _ (if (((gq items.size 0 lo:Nat):Int) == 0 && (1:Int) == 1 && (gq items.size items.size hi - gq items.size 0 lo) == items.size)=true then _ else _) _ _ s
 rw [if_neg hno,VP]
 first
   | exact wpAny_bind (m:=Builtin.Tuple.tupleExact _) (wpAny_newObj_type (wpAny_pure ⟨_,rfl,wpAny_pure h⟩) SX)
   | exact wpAny_bind (m:=Builtin.Tuple.tupleExact _) (wpAny_newObj_type (wpAny_bind (wpAny_pure (wpAny_pure ⟨_,rfl,wpAny_pure h⟩))) SX)
   | exact wpAny_bind (wpAny_bind (m:=Builtin.Tuple.tupleExact _) (wpAny_newObj_type (wpAny_pure (wpAny_pure ⟨_,rfl,wpAny_pure h⟩)) SX))
   | exact wpAny_bind (wpAny_bind (m:=Builtin.Tuple.tupleExact _) (wpAny_newObj_type (wpAny_pure ⟨_,rfl,wpAny_pure h⟩) SX))
end
end HT
namespace L2
open PySem PySem.Spec PyProof.Rows
abbrev TO:=St→Hp→(Option Int→Hp→Prop)→Prop
def PO (X:Cx) (e:Option Expr) (t:TO):Prop :=
 ∀ (pins:List (Addr × Obj)) (s:Shared) (σ:St) (H:Hp) (Q:Option Int→Hp→Prop),Inv X pins σ H s→t σ H Q →
   wpAny (model X.prog X.w) X.A (evalPart e X.env) (fun u s'=>∃ o H',Inv X pins σ H' s'∧IsPart u o∧Q o H') X.xe s
def Zx:TO:=fun _ H Q=>Q none H
def afW (t:TE):TO:=fun σ H Q=>t σ H fun x H1=>∃ i,x=.int i∧Q (some i) H1
section
variable {X:Cx}{e:Expr}{te:TE}{lo hi:Option Expr}{tl th:TO}{pos p2:Pos}
theorem ue:PO X none Zx:=by
 intro pins s σ H Q I h
 rw [evalPart_none]
 exact wpAny_pure ⟨none,H,I,.none,h⟩
theorem uf (h:PE X e te):PO X (some e) (afW te):=by
 intro pins s σ H Q I hw
 rw [evalPart_some]
 refine d9 (h pins s σ H _ I hw) fun u s1 zq=>?_
 obtain⟨x,H1,I1,r1,q1⟩:=zq
 obtain⟨i,rfl,q⟩:=q1
 obtain⟨t,rfl⟩:=r1
 exact⟨some i,H1,I1,.int i t,q⟩
def rM (X:Cx) (r:V→Option Int→Option Int→Hp→VK→Prop):Prop :=
 ∀ (pins:List (Addr × Obj)) (s:Shared) (σ:St) (H:Hp) (x:V) (v vl vu:Value) (lo hi:Option Int) (sl:Addr) (Q:VK),Inv X pins σ H s→RelV x v→s.heap.IsSliceOf sl vl vu .none→IsPart vl lo→IsPart vu hi→r x lo hi H Q →
   ∃ T id,typeLookup (.type T) "__getitem__" = pure (some (.builtin id))∧s.TypeIs v T∧wpAny (model X.prog X.w) X.A (getItem v (.ref sl)) (EP X pins σ Q) X.xe s
theorem rM.or {r r':V→Option Int→Option Int→Hp→VK→Prop} (h:rM X r) (h':rM X r'):rM X (fun x lo hi H Q=>r x lo hi H Q∨r' x lo hi H Q):=by
 intro pins s σ H x v vl vu lo hi sl Q I rx hs pl pu q
 rcases q with q | q
 · exact h pins s σ H x v vl vu lo hi sl Q I rx hs pl pu q
 · exact h' pins s σ H x v vl vu lo hi sl Q I rx hs pl pu q
def tSl (r:V→Option Int→Option Int→Hp→VK→Prop) (te:TE) (tl th:TO):TE:=fun σ H Q=>te σ H fun x H1=>tl σ H1 fun l H2=>th σ H2 fun u H3=>r x l u H3 Q
theorem pY {r:V→Option Int→Option Int→Hp→VK→Prop} (hr:rM X r) (he:PE X e te) (hl:PO X lo tl) (hu:PO X hi th):PE X (.Subscript e (.Slice lo hi none p2) pos) (tSl r te tl th):=by
 intro pins s σ H Q I h
 refine Subscript_ (d9 (he pins s σ H _ I h) fun v s1 zq=>?_)
 obtain⟨x,H1,I1,r1,q1⟩:=zq
 refine wpAny_Slice (d9 (hl pins s1 σ H1 _ I1 q1) fun vl s2 ⟨l,H2,I2,pl,q2⟩=>d9 (hu pins s2 σ H2 _ I2 q2) fun vu s3 zq=>?_)
 obtain⟨u,H3,I3,pu,q3⟩:=zq
 rw [evalPart_none]
 refine wpAny_pure ?_
 have I4:Inv X pins σ H3 { s3 with heap:=s3.heap.push { cls:=.type "slice",data:=.fields #[vl,vu,.none] } }:=I3.kept (t':=s3.toks) fun b ob q=>Heap.get?_push_of_some _ q
 obtain⟨T,id,hT,ht,hg⟩:=hr pins { s3 with heap:=s3.heap.push { cls:=.type "slice",data:=.fields #[vl,vu,.none] } } σ H3 x v vl vu l u s3.heap.objs.size Q I4 r1 (Heap.IsSliceOf.new ..) pl pu q3
 show wpAny (model X.prog X.w) X.A (subscriptTail e (.Slice lo hi none p2) v (.ref s3.heap.objs.size)) (EP X pins σ Q) X.xe { s3 with heap:=s3.heap.push { cls:=.type "slice",data:=.fields #[vl,vu,.none] } }
 exact tail_any (ops:=[.ref s3.heap.objs.size,v]) ht hT hg (by with_unfolding_all rfl)
def pG (xs:List V) (lo hi:Option Int):List V:=(xs.drop (HT.gq xs.length 0 lo)).take (HT.gq xs.length xs.length hi - HT.gq xs.length 0 lo)
theorem Cd (xs:List V) (lo hi:Option Int):(pG xs lo hi).length≤xs.length:=by
 unfold pG
 rw [List.length_take,List.length_drop]
 omega
def ato (K:PySem.W.Frag):V→Option Int→Option Int→Hp→VK→Prop:=fun x lo hi H Q=>∃ a xs,x=.ref a∧dH K H a xs ∧
 ¬ (HT.gq xs.length 0 lo=0∧HT.gq xs.length xs.length hi=xs.length)∧∀ p,H p=none→Q (.ref p) (upd H p (.tup (pG xs lo hi)))
theorem ab0:rM X (ato X.K):=by
 intro pins s σ H x v vl vu lo hi sl Q I rx hs pl pu h
 obtain⟨a,xs,rfl,hx,hw,q⟩:=h
 cases rx
 obtain⟨its,r,ht,hz⟩:=I.tuple hx
 have hlen:its.toArray.size=xs.length:=by rw [List.size_toArray];exact r.length.symm
 refine⟨"tuple",_,PyProof.Rows.slot_tuple_getitem.lookup,ht.typeIs,?_⟩
 refine HT.wR ht hs pl pu (by rw [hlen];exact hw) ?_ (by rw [hlen];exact hz)
 rw [hlen]
 refine⟨.ref s.heap.objs.size,_,I.laid (t':=s.toks) (o:=.tup (pG xs lo hi)) (fun b ob q=>Heap.get?_push_of_some _ q) (Nat.le_refl _) ?_,rfl,q _ (I.hok.fresh (Nat.le_refl _))⟩
 exact⟨Nat.le_trans (Cd xs lo hi) hz,_,(r.drop (HT.gq xs.length 0 lo)).take (HT.gq xs.length xs.length hi - HT.gq xs.length 0 lo),IsTup.new _ _⟩
def afX (K:PySem.W.Frag):R2:=fun x y H Q=>∃ a b xs ys,x=.ref a∧y=.ref b∧dH K H a xs∧dH K H b ys∧xs≠[]∧xs.length+ys.length≤sizeLine ∧
 (ys=[]→Q (.ref a) H)∧(ys≠[]→∀ p,H p=none→Q (.ref p) (upd H p (.tup (xs++ys))))
theorem Vals.Kl {xs:List V}{us:List Value} (r:Vals xs us):us=[]↔xs=[]:=by
 cases r with
 | nil=>simp
 | cons _ _=>simp
theorem Km:iw X (binaryOp .Add) (afX X.K):=by
 intro pins s σ H x y v u Q I rx ry h
 obtain⟨a,b,xs,ys,rfl,rfl,ha,hb,hx,hz,q1,q2⟩:=h
 cases rx
 cases ry
 obtain⟨its,r1,p1,_⟩:=I.tuple ha
 obtain⟨its2,r2,p2,_⟩:=I.tuple hb
 refine HT.Zw p1 p2 (fun z=>hx (r1.Kl.mp z)) (fun z=>⟨.ref a,H,I,rfl,q1 (r2.Kl.mp z)⟩) (fun z=>?_) (by rw [← r1.length,← r2.length];exact hz)
 refine⟨.ref s.heap.objs.size,_,I.laid (t':=s.toks) (o:=.tup (xs++ys)) (fun b ob q=>Heap.get?_push_of_some _ q) (Nat.le_refl _) ?_,rfl,q2 (fun w=>z (r2.Kl.mpr w)) _ (I.hok.fresh (Nat.le_refl _))⟩
 exact⟨by rw [List.length_append];exact hz,_,r1.append r2,IsTup.new _ _⟩
end
end L2
namespace L2
open PySem PySem.Spec PyProof.Rows
def ixN (n:Nat) (i:Int):Option Nat:=if 0≤i then (if i<n then some i.toNat else none) else if -(n:Int)≤i then some (i+n).toNat else none
def iM {α:Type} (xs:List α) (i:Int):Option α:=(ixN xs.length i).bind fun j=>xs[j]?
theorem Zy {n:Nat}{i:Int}{j:Nat} (h:ixN n i=some j):seqIndex? i n=some j∧j<n∧-(n:Int)≤i∧i<n:=by
 unfold ixN at h
 by_cases h0:0≤i
 · rw [if_pos h0] at h
   by_cases h1:i<n
   · rw [if_pos h1] at h
     have e:i.toNat=j:=Option.some.inj h
     exact⟨by rw [seqIndex_of h0 h1,e],by omega,by omega,h1⟩
   · rw [if_neg h1] at h;cases h
 · rw [if_neg h0] at h
   by_cases h1:-(n:Int)≤i
   · rw [if_pos h1] at h
     have e:(i+n).toNat=j:=Option.some.inj h
     exact⟨by rw [seqIndex_neg (by omega) h1,e],by omega,h1,by omega⟩
   · rw [if_neg h1] at h;cases h
theorem Ko {α:Type}{xs:List α}{i:Int}{v:α} (h:iM xs i=some v):∃ j,seqIndex? i xs.length=some j∧xs[j]? = some v∧j<xs.length∧-(xs.length:Int)≤i∧i<xs.length:=by
 unfold iM at h
 cases e:ixN xs.length i with
 | none=>rw [e] at h;cases h
 | some j =>
   rw [e] at h
   obtain⟨h1,h2,h3,h4⟩:=Zy e
   exact⟨j,h1,h,h2,h3,h4⟩
theorem zR {α:Type}{xs:List α}{j:Nat}{v:α} (h:xs[j]? = some v):iM xs (j:Int)=some v:=by
 have hj:j<xs.length:=(List.getElem?_eq_some_iff.mp h).1
 have e:ixN xs.length (j:Int)=some j:=by
   unfold ixN
   rw [if_pos (by omega),if_pos (by omega)];simp
 unfold iM;rw [e];exact h
def Zz (b:Expr):Prop:=∀ o i,subscripted b false o i=operate [o,i] (getItem o i)
def rN (X:Cx) (r:R2):Prop :=
 ∀ (value slice:Expr) (pins:List (Addr × Obj)) (s:Shared) (σ:St) (H:Hp) (x y:V) (v u:Value) (Q:VK),Inv X pins σ H s→RelV x v→RelV y u→r x y H Q →
   subscripted slice false v u=operate [v,u] (getItem v u)→wpAny (model X.prog X.w) X.A (subscriptTail value slice v u) (EP X pins σ Q) X.xe s
def MtR (X:Cx) (id:String) (r:V→List V→Hp→VK→Prop):Prop :=
 ∀ (pins:List (Addr × Obj)) (s:Shared) (σ:St) (H:Hp) (x:V) (xs:List V) (v:Value) (us:List Value) (Q:VK),Inv X pins σ H s→RelV x v→Vals xs us→r x xs H Q →
   wpAny (model X.prog X.w) X.A (call (.builtin id) (v::us)) (EP X pins σ Q) X.xe s
section
variable {X:Cx}{a b:Expr}{ta tb:TE}{pos:Pos}
theorem rN.or {r r':R2} (h:rN X r) (h':rN X r'):rN X (fun x y H Q=>r x y H Q∨r' x y H Q):=by
 intro value slice pins s σ H x y v u Q I rx ry q hs
 rcases q with q | q
 · exact h value slice pins s σ H x y v u Q I rx ry q hs
 · exact h' value slice pins s σ H x y v u Q I rx ry q hs
theorem MtR.or {id:String}{r r':V→List V→Hp→VK→Prop} (h:MtR X id r) (h':MtR X id r'):MtR X id (fun x xs H Q=>r x xs H Q∨r' x xs H Q):=by
 intro pins s σ H x xs v us Q I rx rs q
 rcases q with q | q
 · exact h pins s σ H x xs v us Q I rx rs q
 · exact h' pins s σ H x xs v us Q I rx rs q
theorem zS {r:R2} (hr:rN X r) (ha:PE X a ta) (hb:PE X b tb) (hs:Zz b):PE X (.Subscript a b pos) (PK r ta tb):=by
 intro pins s σ H Q I h
 exact Subscript_ (abW ha hb I h fun v u s2 x y H2 I2 rx ry q=>hr a b pins s2 σ H2 x y v u Q I2 rx ry q (hs _ _))
def atp (K:PySem.W.Frag):R2:=fun x y H Q=>∃ p xs i v,x=.ref p∧y=.int i∧bR K H p xs∧iM xs i=some v∧Q v H
def afZ (K:PySem.W.Frag):R2:=fun x y H Q=>∃ p xs i v,x=.ref p∧y=.int i∧dH K H p xs∧iM xs i=some v∧Q v H
def atq:R2:=fun x y H Q=>∃ z i c,x=.str z∧y=.int i∧z.length≤sizeLine∧iM z.cps.toList i=some c∧Q (.str ⟨#[c]⟩) H
theorem bj:rN X (atp X.K):=by
 intro value slice pins s σ H x y v u Q I rx ry h hs
 obtain⟨p,xs,i,z,rfl,rfl,hq,he,q⟩:=h
 cases rx
 obtain⟨t,rfl⟩:=ry
 obtain⟨its,r,pl,hz⟩:=I.list hq
 obtain⟨j,h1,h2,h3,h4,h5⟩:=Ko he
 obtain⟨w,ew,Df⟩:=r.get h2
 have hl:=r.length
 have hn:=EY
 have fin:EP X pins σ Q w s:=⟨z,H,I,Df,q⟩
 by_cases h0:0≤i
 · have hj:i.toNat=j:=by
     rw [seqIndex_of h0 h5] at h1
     exact Option.some.inj h1
   exact item_listR pl.isList h0 (by omega) (by rw [hj];simpa using ew) fin hs
 · have hj:(i+(its.toArray.size:Int)).toNat=j:=by
     rw [seqIndex_neg (by omega) h4] at h1
     rw [List.size_toArray,← hl]
     exact Option.some.inj h1
   exact subscriptTail_builtinR (x:=w) pl.isList.typeIs slot_list_getitem.lookup
     (wpAny_getItem_list_neg (Q:=fun r s'=>r=w∧EP X pins σ Q r s') pl.isList (by omega) (by rw [List.size_toArray] <;> omega) (by omega) (by rw [hj];simpa using ew) ⟨rfl,fin⟩) hs
theorem zX:rN X (afZ X.K):=by
 intro value slice pins s σ H x y v u Q I rx ry h hs
 obtain⟨p,xs,i,z,rfl,rfl,hq,he,q⟩:=h
 cases rx
 obtain⟨t,rfl⟩:=ry
 obtain⟨its,r,pl,hz⟩:=I.tuple hq
 obtain⟨j,h1,h2,h3,h4,h5⟩:=Ko he
 obtain⟨w,ew,Df⟩:=r.get h2
 have hl:=r.length
 have hn:=EY
 have fin:EP X pins σ Q w s:=⟨z,H,I,Df,q⟩
 exact subscriptTail_builtinR (x:=w) pl.typeIs slot_tuple_getitem.lookup
   (getItem_tuple (j:=j) (Q:=fun r s'=>r=w∧EP X pins σ Q r s') pl (by omega) (by omega) (by rw [List.size_toArray,← hl];exact h1) (by simpa using ew) ⟨rfl,fin⟩) hs
theorem VR:rN X atq:=by
 intro value slice pins s σ H x y v u Q I rx ry h hs
 obtain⟨z,i,c,rfl,rfl,hz,he,q⟩:=h
 obtain⟨t,rfl⟩:=rx
 obtain⟨t',rfl⟩:=ry
 obtain⟨j,h1,h2,h3,h4,h5⟩:=Ko he
 have hl:z.cps.toList.length=z.length:=by simp [Str.length]
 rw [hl] at h1 h4 h5
 have hn:=EY
 exact tail_any (typeIs_str s z t) slot_str_getitem.lookup (getItem_str (c:=c) (by
   have e1:decide (i < -(2 ^ 63:Int))=false:=decide_eq_false (by omega)
   have e2:decide (i ≥ 2 ^ 63)=false:=decide_eq_false (by omega)
   rw [e1,e2,Bool.or_false]) (by rw [h1];simpa using h2) ⟨.str ⟨#[c]⟩,H,I.tok _,⟨_,rfl⟩,q⟩) hs
theorem Inv.lst {pins:List (Addr × Obj)}{σ:St}{H:Hp}{s:Shared}{p:Addr}{xs:List V} (I:Inv X pins σ H s) (h:H p=some (.lst xs)) :
   ∃ (its:List Value) (n:Nat),Vals xs its∧s.heap.get? p=some { cls:=.type "list",data:=.seq its.toArray n }∧xs.length≤sizeLine:=by
 obtain⟨z,its,n,r,e⟩:=I.hok p _ h
 exact⟨its,n,r,e,z⟩
theorem Kp (lo hi:Option Int) (n:Nat):(sliceBounds lo hi none n).1=((HT.gq n 0 lo:Nat):Int)∧(sliceBounds lo hi none n).2.1=((HT.gq n n hi:Nat):Int)∧(sliceBounds lo hi none n).2.2=1:=by
 refine⟨?_,?_,rfl⟩
 · cases lo with
   | none=>simp [sliceBounds,HT.gq]
   | some i =>
     simp only [sliceBounds,HT.gq,Option.getD_none,show (1:Int) > 0 by decide,if_true]
     by_cases h:i<0
     · simp only [h,if_true] <;> omega
     · simp only [h,if_false] <;> omega
 · cases hi with
   | none=>simp [sliceBounds,HT.gq]
   | some i =>
     simp only [sliceBounds,HT.gq,Option.getD_none,show (1:Int) > 0 by decide,if_true]
     by_cases h:i<0
     · simp only [h,if_true] <;> omega
     · simp only [h,if_false] <;> omega
theorem Ib (its:List Value) (lo hi:Option Int):slicePick its.toArray lo hi none=((its.drop (HT.gq its.length 0 lo)).take (HT.gq its.length its.length hi - HT.gq its.length 0 lo)).toArray:=by
 obtain⟨h1,h2,h3⟩:=Kp lo hi its.toArray.size
 unfold slicePick
 rw [h1,h2,h3]
 simp only [sliceRange_one,pick_run,List.size_toArray] <;> rfl
def atr (K:PySem.W.Frag):V→Option Int→Option Int→Hp→VK→Prop:=fun x lo hi H Q=>∃ a xs,x=.ref a∧bR K H a xs∧∀ p,H p=none→Q (.ref p) (upd H p (.lst (pG xs lo hi)))
theorem S8:rM X (atr X.K):=by
 intro pins s σ H x v vl vu lo hi sl Q I rx hs pl pu h
 obtain⟨a,xs,rfl,hx,q⟩:=h
 cases rx
 obtain⟨its,r,ht,hz⟩:=I.list hx
 have hlen:=r.length
 refine⟨"list",_,slot_list_getitem.lookup,ht.isList.typeIs,?_⟩
 refine wpAny_getItem_list_slice ht.isList hs pl pu .none (by simp) ?_ (by rw [List.size_toArray] <;> omega)
 rw [Ib,← hlen]
 refine⟨.ref s.heap.objs.size,_,I.laid (t':=s.toks) (o:=.lst (pG xs lo hi)) (fun b ob q=>Heap.get?_push_of_some _ q) (Nat.le_refl _) ?_,rfl,q _ (I.hok.fresh (Nat.le_refl _))⟩
 exact⟨Nat.le_trans (Cd xs lo hi) hz,_,0,(r.drop (HT.gq xs.length 0 lo)).take (HT.gq xs.length xs.length hi - HT.gq xs.length 0 lo),Heap.get?_push_size _ rfl⟩
def fH:V→Bool
 | .non=>true
 | .bl _=>true
 | .int _=>true
 | .str _=>true
 | _=>false
def JB:V→V→Bool
 | .non,.non=>true
 | .bl a,.bl b=>a == b
 | .bl a,.int b=>(if a then 1 else 0) == b
 | .int a,.bl b=>a == (if b then 1 else 0)
 | .int a,.int b=>a == b
 | .str a,.str b=>a == b
 | _,_=>false
theorem V0 {A:Around}{s:Shared}{y x:V}{u v:Value} (ry:RelV y u) (rx:RelV x v) (fy:fH y=true) (fx:fH x=true):SeqAt.EqAt A s u v (JB y x):=by
 cases y with
 | non =>
   cases ry
   cases x with
   | non=>cases rx;exact SeqAt.EqAt.same _
   | bl b=>cases rx;exact SeqAt.EqAt.none_bool b
   | int b=>obtain⟨t,rfl⟩:=rx;exact SeqAt.EqAt.none_int b t
   | str b=>obtain⟨t,rfl⟩:=rx;exact SeqAt.EqAt.none_str b t
   | _=>exact absurd (show false=true from fx) Bool.false_ne_true
 | bl a =>
   cases ry
   cases x with
   | non=>cases rx;exact SeqAt.EqAt.bool_none a
   | bl b=>cases rx;exact SeqAt.EqAt.bool_bool a b
   | int b=>obtain⟨t,rfl⟩:=rx;exact SeqAt.EqAt.bool_int a b t
   | str b=>obtain⟨t,rfl⟩:=rx;exact SeqAt.EqAt.bool_str a b t
   | _=>exact absurd (show false=true from fx) Bool.false_ne_true
 | int a =>
   obtain⟨t',rfl⟩:=ry
   cases x with
   | non=>cases rx;exact SeqAt.EqAt.int_none a t'
   | bl b=>cases rx;exact SeqAt.EqAt.int_bool a t' b
   | int b=>obtain⟨t,rfl⟩:=rx;exact SeqAt.EqAt.int_int a t' b t
   | str b=>obtain⟨t,rfl⟩:=rx;exact SeqAt.EqAt.int_str a t' b t
   | _=>exact absurd (show false=true from fx) Bool.false_ne_true
 | str a =>
   obtain⟨t',rfl⟩:=ry
   cases x with
   | non=>cases rx;exact SeqAt.EqAt.str_none a t'
   | bl b=>cases rx;exact SeqAt.EqAt.str_bool a t' b
   | int b=>obtain⟨t,rfl⟩:=rx;exact SeqAt.EqAt.str_int a t' b t
   | str b=>obtain⟨t,rfl⟩:=rx;exact SeqAt.EqAt.str_str a t' b t
   | _=>exact absurd (show false=true from fx) Bool.false_ne_true
 | _=>exact absurd (show false=true from fy) Bool.false_ne_true
def V1 (x:V) (u:Value):Bool:=match u with
 | .none=>JB .non x
 | .bool b=>JB (.bl b) x
 | .int i _=>JB (.int i) x
 | .str z _=>JB (.str z) x
 | _=>false
theorem Qk {x y:V}{u:Value} (r:RelV y u) (f:fH y=true):V1 x u=JB y x:=by
 cases y with
 | non=>cases r;rfl
 | bl b=>cases r;rfl
 | int i=>obtain⟨t,rfl⟩:=r;rfl
 | str z=>obtain⟨t,rfl⟩:=r;rfl
 | _=>exact absurd (show false=true from f) Bool.false_ne_true
theorem Kr {x:V}:∀ {xs:List V}{us:List Value},Vals xs us→xs.all fH=true→us.any (V1 x)=xs.any fun y=>JB y x
 | _,_,.nil,_=>rfl
 | y::xs,u::us,.cons r t,f=>by
   rw [List.all_cons,Bool.and_eq_true] at f
   rw [List.any_cons,List.any_cons,Qk r f.1,Kr t f.2]
theorem wU {A:Around}{s:Shared}{x:V}{v:Value} (rx:RelV x v) (fx:fH x=true):∀ {xs:List V}{us:List Value},Vals xs us→xs.all fH=true→∀ u∈us,SeqAt.EqAt A s u v (V1 x u)
 | _,_,.nil,_=>fun u hu=>by cases hu
 | y::xs,u::us,.cons r t,f=>fun u' hu=>by
   rw [List.all_cons,Bool.and_eq_true] at f
   rcases List.mem_cons.mp hu with rfl | hu
   · rw [Qk r f.1];exact V0 r rx f.1 fx
   · exact wU rx fx t f.2 u' hu
def inV (x:V) (xs:List V):Bool:=xs.any fun y=>JB y x
def rIn (K:PySem.W.Frag) (neg:Bool):R2:=fun x y H Q=>∃ p xs,y=.ref p∧(bR K H p xs∨dH K H p xs)∧fH x=true∧xs.all fH=true∧Q (.bl (if neg then !inV x xs else inV x xs)) H
theorem JC:iw X (compareOp .In) (rIn X.K false):=by
 intro pins s σ H x y v u Q I rx ry h
 obtain⟨p,xs,rfl,hq,fx,fs,q⟩:=h
 cases ry
 rcases hq with hq | hq
 · obtain⟨its,r,pl,hz⟩:=I.list hq
   refine SeqAt.in_listAt (V1 x) pl.isList (fun w hw=>wU rx fx r fs w (by simpa using hw)) ⟨.bl _,H,I,rfl,?_⟩
   rw [show its.toArray.any (V1 x)=its.any (V1 x) by simp,Kr r fs]
   exact q
 · obtain⟨its,r,pl,hz⟩:=I.tuple hq
   refine SeqAt.in_tupleAt (V1 x) pl (fun w hw=>wU rx fx r fs w (by simpa using hw)) ⟨.bl _,H,I,rfl,?_⟩
   rw [show its.toArray.any (V1 x)=its.any (V1 x) by simp,Kr r fs]
   exact q
theorem yB:cg X (.builtin "len") (fun xs H Q=>∃ p ys,xs=[.ref p]∧(bR X.K H p ys∨dH X.K H p ys)∧Q (.int ys.length) H):=by
 intro pins s σ H xs us Q I r h
 obtain⟨p,ys,rfl,hq,q⟩:=h
 obtain⟨u,rfl,rx⟩:=vals1 r
 cases rx
 have hn:=EY
 rcases hq with hq | hq
 · obtain⟨its,r',pl,hz⟩:=I.list hq
   have hlen:=r'.length
   exact Calls.call_len_list pl.isList (by simp only [List.size_toArray] <;> omega) ⟨.int ys.length,H,I.tok _,⟨s.toks+1,by rw [List.size_toArray,hlen]⟩,q⟩
 · obtain⟨its,r',pl,hz⟩:=I.tuple hq
   have hlen:=r'.length
   exact len_tuple pl (by simp only [List.size_toArray] <;> omega) ⟨.int ys.length,H,I.tok _,⟨s.toks+1,by rw [List.size_toArray,hlen]⟩,q⟩
theorem cg.or {f:Value}{r r':List V→Hp→VK→Prop} (h:cg X f r) (h':cg X f r'):cg X f (fun xs H Q=>r xs H Q∨r' xs H Q):=by
 intro pins s σ H xs us Q I rs q
 rcases q with q | q
 · exact h pins s σ H xs us Q I rs q
 · exact h' pins s σ H xs us Q I rs q
theorem xV:cg X (.type "list") (fun xs H Q=>∃ p ys,xs=[.ref p]∧(bR X.K H p ys∨dH X.K H p ys)∧∀ l,H l=none→Q (.ref l) (upd H l (.lst ys))):=by
 intro pins s σ H xs us Q I r h
 obtain⟨p,ys,rfl,hq,q⟩:=h
 obtain⟨u,rfl,rx⟩:=vals1 r
 cases rx
 have fin:∀ (its:List Value),Vals ys its→ys.length≤sizeLine→∀ (h':Heap) (c':Nat),(∀ b o',s.heap.get? b=some o'→h'.get? b=some o') →
     h'.get? s.heap.objs.size=some { cls:=.type "list",dict:=none,data:=.seq its.toArray c',slots:=#[] }→EP X pins σ Q (.ref s.heap.objs.size) { s with heap:=h' }:=fun its r' hz h' c' kp e =>
   ⟨.ref s.heap.objs.size,_,I.laid (t':=s.toks) kp (Nat.le_refl _) (show cI X.prog X.w _ h' _ (.lst ys) from ⟨hz,its,c',r',e⟩),rfl,q _ (I.hok.fresh (Nat.le_refl _))⟩
 rcases hq with hq | hq
 · obtain⟨its,r',pl,hz⟩:=I.list hq
   have hlen:=r'.length
   obtain⟨o,ho,hc,n,hd⟩:=pl.isList
   exact call_list_seq p (.inl rfl) ho hc hd (fun h' c' kp e=>fin its r' hz h' c' kp e) (by simp only [List.size_toArray] <;> omega)
 · obtain⟨its,r',pl,hz⟩:=I.tuple hq
   have hlen:=r'.length
   obtain⟨o,ho,hc,n,hd⟩:=pl
   exact call_list_seq p (.inr rfl) ho hc hd (fun h' c' kp e=>fin its r' hz h' c' kp e) (by simp only [List.size_toArray] <;> omega)
def tyV (K:PySem.W.Frag) (T:String) (x:V) (H:Hp):Prop:=match x with
 | .str _=>T="str"
 | .int _=>T="int"
 | .ref p=>(T="list"∧∃ xs,bR K H p xs)∨(T="tuple"∧∃ o,K.lookup p=some o∧o.cls=.type "tuple"∧o.dict=none) ∨
     (T="dict"∧((∃ kvs,H p=some (.dK kvs))∨∃ kvs,H p=some (.dT kvs)))∨(T="set"∧∃ S n,H p=some (.set S n))
 | _=>False
theorem ab1 {pins:List (Addr × Obj)}{σ:St}{H:Hp}{s:Shared}{T:String}{x:V}{v:Value} (I:Inv X pins σ H s) (r:RelV x v) (ty:tyV X.K T x H) :
   s.TypeIs v T∧∀ a,v=.ref a→∃ ob,s.heap.get? a=some ob∧ob.dict=none:=by
 cases x with
 | str z =>
   obtain⟨t,rfl⟩:=r
   cases (show T="str" from ty)
   exact⟨typeIs_str s z t,fun _ e=>nomatch e⟩
 | int i =>
   obtain⟨t,rfl⟩:=r
   cases (show T="int" from ty)
   exact⟨typeIs_int s i t,fun _ e=>nomatch e⟩
 | ref p =>
   cases r
   rcases ty with ⟨rfl,xs,hq⟩ | ⟨rfl,o,hk,hc,hd⟩ | ⟨rfl,hk⟩ | ⟨rfl,S,n,hk⟩
   · obtain⟨its,_,pl,_⟩:=I.list hq
     refine⟨pl.isList.typeIs,fun a e=>?_⟩
     cases e
     obtain⟨o,n,e,c,hd,_⟩:=pl
     exact⟨o,e,hd⟩
   · refine⟨⟨o,I.Dd p o hk,hc⟩,fun a e=>?_⟩
     cases e
     exact⟨o,I.Dd _ o hk,hd⟩
   · have z:∃ o,s.heap.get? p=some o∧o.ExactDict:=by
       rcases hk with ⟨kvs,hk⟩ | ⟨kvs,hk⟩
       · obtain⟨_,_,_,_,o,_,_,e,ex,_⟩:=I.hok p _ hk
         exact⟨o,e,ex⟩
       · obtain⟨_,_,_,_,o,_,_,e,ex,_⟩:=I.hok p _ hk
         exact⟨o,e,ex⟩
     obtain⟨o,e,ex⟩:=z
     refine⟨⟨o,e,ex.1⟩,fun a e2=>?_⟩
     cases e2
     exact⟨o,e,ex.2.1⟩
   · obtain⟨o,_,_,_,e,ex,_⟩:=I.hok p _ hk
     refine⟨⟨o,e,ex.1⟩,fun a e2=>?_⟩
     cases e2
     exact⟨o,e,ex.2.1⟩
 | _=>exact False.elim ty
def tBM (K:PySem.W.Frag) (T:String) (r:V→List V→Hp→VK→Prop) (to:TE) (t:TA):TE:=fun σ H Q=>to σ H fun x H1=>tyV K T x H1∧t σ H1 fun xs H2=>r x xs H2 Q
variable {o e:Expr}{es:List Expr}{to:TE}{t:TA}{name:Str}{apos cpos:Pos}{T id:String}{r:V→List V→Hp→VK→Prop}
theorem mC (pa:PlainAttrs T) (slot:Slot T name id) (hty:typeOf (.builtin id)=pure (.type "method_descriptor")) (hm:MtR X id r) (ho:PE X o to) (ha:PA X (e::es) t)
   (hbase:attributeBase o name X.env (eval o X.env)=eval o X.env:=by rfl)
   (hfew:((backTo cpos (starEach (e::es) X.env)).all (fun x=>!x.1) && (backToKw cpos (keywordEach [] X.env)).all (fun x=>x.1.isSome)
     && decide ((e::es).length+([]:List Keyword).length+(if ([]:List Keyword).isEmpty then 0 else 1)<30))=true:=by rfl)
   (hline:(apos.endLine == cpos.line)=true:=by rfl) (hs:starEach (e::es) X.env=(false,eval e X.env)::starEach es X.env:=by rfl) (hplain:(backTo cpos (starEach es X.env)).any (·.1)=false:=by rfl) :
   PE X (.Call (.Attribute o name apos) (e::es) [] cpos) (tBM X.K T r to t):=by
 intro pins s σ H Q I h
 refine wpAny_Call_method_late hbase hfew hline rfl (d9 (ho pins s σ H _ I h) fun v s1 zq=>?_)
 obtain⟨x,H1,I1,r1,ty,q1⟩:=zq
 obtain⟨h1,h2⟩:=ab1 I1 r1 ty
 refine⟨T,id,pa,slot,hty,h1,h2,?_⟩
 have hA:=ha cpos pins s1 σ H1 _ I1 q1
 rw [hs] at hA ⊢
 refine Calls.callWith_builtin (by show (false || (backTo cpos (starEach es X.env)).any (·.1))=false;rw [hplain] <;> rfl) (Calls.evalArgs_plain ?_)
 exact d9 hA fun us s2 ⟨vs,H2,I2,r2,q2⟩=>hm pins s2 σ H2 x vs v us Q I2 r1 r2 q2
end
end L2
namespace L2
open PySem PySem.Spec PyProof.Rows
def MtM (X:Cx) (id:String) (r:V→List V→Hp→VK→Prop):Prop :=
 ∀ (pins:List (Addr × Obj)) (s:Shared) (σ:St) (H:Hp) (x:V) (xs:List V) (v:Value) (us:List Value) (Q:VK),Inv X pins σ H s→RelV x v→Vals xs us→r x xs H Q →
   wpAny (model X.prog X.w) X.A (call (.builtin id) (v::us)) (EP X pins σ Q) X.xe s
theorem Vals.one:∀ {x:V}{us:List Value},Vals [x] us→∃ u,us=[u]∧RelV x u
 | _,_,.cons r .nil=>⟨_,rfl,r⟩
theorem Vals.zero:∀ {us:List Value},Vals [] us→us=[]
 | _,.nil=>rfl
theorem Vals.reverse {xs:List V}{us:List Value} (h:Vals xs us):Vals xs.reverse us.reverse:=by
 induction h with
 | nil=>exact .nil
 | cons r t ih=>rw [List.reverse_cons,List.reverse_cons];exact Vals.append ih (.cons r .nil)
section
variable {X:Cx}{pins:List (Addr × Obj)}{σ:St}{H:Hp}{s:Shared}{l b:Addr}{xs ys zs:List V}
theorem Inv.af0 {its its':List Value}{n:Nat}{f:Array Value→Array Value}{t':Nat} (I:Inv X pins σ H s) (hH:H l=some (.lst xs))
   (e:s.heap.get? l=some { cls:=.type "list",data:=.seq its.toArray n }) (hf:f its.toArray=its'.toArray) (hv:Vals ys its') (hz:ys.length≤sizeLine) :
   Inv X pins σ (upd H l (.lst ys)) { s with heap:=s.heap.update l (Obj.mapSeq f),toks:=t' }:=by
 have q:=PySem.IsL.update e f
 rw [hf] at q
 refine I.write (x:=l) (e:=l) (by rw [hH];exact trivial) (.inl rfl) (fun b' u hb hu=>(Heap.get?_update_other s.heap (Obj.mapSeq f) (Ne.symm hb)).trans hu) ⟨_,q⟩ ?_
 exact⟨hz,its',_,hv,q⟩
theorem Inv.atv {its:List Value}{t':Nat} (I:Inv X pins σ H s) (hv:Vals ys its) (hz:ys.length≤sizeLine) :
   Inv X pins σ (upd H s.heap.objs.size (.lst ys)) { s with heap:=s.heap.push { cls:=.type "list",data:=.seq its.toArray },toks:=t' } :=
 I.laid (fun _ _ q=>Heap.get?_push_of_some _ q) (Nat.le_refl _) ⟨hz,its,0,hv,Heap.get?_push_size _ rfl⟩
theorem Inv.fresh (I:Inv X pins σ H s):H s.heap.objs.size=none:=I.hok.fresh (Nat.le_refl _)
theorem Inv.V2 (I:Inv X pins σ H s) (hH:H l=some (.lst xs)):xs.length≤sizeLine∧∃ (its:List Value) (n:Nat),Vals xs its∧xs.length=its.length∧s.heap.get? l=some { cls:=.type "list",data:=.seq its.toArray n }:=by
 obtain⟨z,its,n,r,e⟩:=I.hok l _ hH
 exact⟨z,its,n,r,r.length,e⟩
theorem V3 {n:Nat} (h:n≤sizeLine):Builtin.List.listTooLong n=false:=by
 unfold Builtin.List.listTooLong
 exact decide_eq_false (by omega)
end
section
variable {X:Cx}
def ZC:V→List V→Hp→VK→Prop:=fun x vs H Q=>∃ l xs y,x=.ref l∧vs=[y]∧H l=some (.lst xs)∧xs.length<sizeLine∧Q .non (upd H l (.lst (xs++[y])))
theorem yU:MtM X "list.append" ZC:=by
 intro pins s σ H x vs v us Q I rx rv h
 obtain⟨l,xs,y,rfl,rfl,hH,hz,q⟩:=h
 cases rx
 obtain⟨u,rfl,ru⟩:=rv.one
 obtain⟨z,its,n,r,hl,e⟩:=I.V2 hH
 refine call_meets F.slot_list_append ⟨_,e,rfl⟩ F.entry_list_append (F.args_list_append_2 _ _) (PySem.list_append l its.toArray n u (by rw [List.size_toArray];omega)) ⟨e,?_⟩
 refine⟨.non,_,I.af0 (its':=its++[u]) hH e (by simp) (r.append (.cons ru .nil)) ?_,rfl,q⟩
 rw [List.length_append,List.length_singleton]
 omega
def ZD:V→List V→Hp→VK→Prop:=fun x vs H Q=>∃ l b xs zs,x=.ref l∧vs=[.ref b]∧H l=some (.lst xs)∧H b=some (.lst zs)∧xs.length+zs.length≤sizeLine∧Q .non (upd H l (.lst (xs++zs)))
theorem Ui:MtM X "list.extend" ZD:=by
 intro pins s σ H x vs v us Q I rx rv h
 obtain⟨l,b,xs,zs,rfl,rfl,hH,hB,hz,q⟩:=h
 cases rx
 obtain⟨u,rfl,ru⟩:=rv.one
 cases ru
 obtain⟨z,its,n,r,hl,e⟩:=I.V2 hH
 obtain⟨z2,its2,n2,r2,hl2,e2⟩:=I.V2 hB
 have hsz:its.toArray.size+its2.toArray.size≤sizeLine:=by rw [List.size_toArray,List.size_toArray];omega
 have af1:¬ (!its.toArray.isEmpty && Builtin.List.listTooLong (its.toArray.size+its2.toArray.size))=true:=by
   rw [V3 hsz,Bool.and_false]
   exact Bool.false_ne_true
 refine call_meets F.slot_list_extend ⟨_,e,rfl⟩ F.entry_list_extend (F.args_list_extend_2 _ _)
   (AutoSeq1.list_extend_list_list_0 l its.toArray n b its2.toArray n2 af1 (by rw [List.size_toArray];omega) (by omega)) ⟨e,e2,?_⟩
 refine⟨.non,_,I.af0 (its':=its++its2) hH e (by simp) (r.append r2) ?_,rfl,q⟩
 rw [List.length_append]
 omega
def atw:R2:=fun x y H Q=>∃ l b xs zs,x=.ref l∧y=.ref b∧H l=some (.lst xs)∧H b=some (.lst zs)∧xs.length+zs.length≤sizeLine∧∀ p,H p=none→Q (.ref p) (upd H p (.lst (xs++zs)))
theorem V4:iw X (binaryOp .Add) atw:=by
 intro pins s σ H x y v u Q I rx ry h
 obtain⟨l,b,xs,zs,rfl,rfl,hH,hB,hz,q⟩:=h
 cases rx
 cases ry
 obtain⟨z,its,n,r,hl,e⟩:=I.V2 hH
 obtain⟨z2,its2,n2,r2,hl2,e2⟩:=I.V2 hB
 refine PySem.P.add_list e e2 ?_ (by rw [List.size_toArray,List.size_toArray];omega)
 have ea:its.toArray++its2.toArray=(its++its2).toArray:=by simp
 rw [ea]
 exact⟨.ref _,_,I.atv (t':=s.toks) (r.append r2) (by rw [List.length_append];omega),rfl,q _ I.fresh⟩
end
section
variable {prog:Program}{w:World}{A:Around}{E:Value→Shared→Prop}{s:Shared}
end
section
variable {X:Cx}
end
end L2
namespace Att
open PySem PySem.W PySem.Calls PyProof.Rows
theorem Dg {P:Params}{h:Heap}:∀ (ns:List Int) (vs:List Value),WellAll P h vs (ns.map WData.int)→IntsAre vs ns:=by
 intro ns
 induction ns with
 | nil =>
   intro vs w
   rw [List.map_nil] at w
   cases w
   exact .nil
 | cons n ns ih =>
   intro vs w
   rw [List.map_cons] at w
   cases w with
   | cons a b =>
     cases a
     exact .cons _ _ (ih _ b)
theorem Uj {l:OpenLaw}{n:Nat} (hn:l.most=some n) {P:Params}{h:Heap}{args:List WData}{vals:List Value}
   (hpre:l.row.toRowW.claim.pre args=true) (hwl:WellAll P h vals args) :
   ∃ a vs ns,vals=[Value.ref a]∧args=[WData.list (ns.map WData.int)]∧h.get? a=some { cls:=.type "list",data:=.seq vs.toArray }∧IntsAre vs ns∧ns.length≤n:=by
 have hsh:WShape.hasAll [] args [.list .int]=true:=(pre_splitW hpre).1
 have hc:l.pre.holds [] { args:=args } = true:=(pre_splitW hpre).2
 obtain⟨d,r,rfl,h1,h2⟩:=hasAllW_cons hsh
 obtain rfl:=hasAllW_nil h2
 obtain⟨xs,rfl,h3⟩:=hasW_list h1
 obtain⟨ns,rfl⟩:=items_int h3
 have hlen:ns.length≤n:=by
   unfold OpenLaw.pre at hc
   have h4:(WTm.not (.lt (.lit (.int (n:Int))) (.len (.arg 0)))).holds [] { args:=[.list (ns.map .int)] } = true:=by
     have h4:=(holds_andW hc).1
     rw [hn] at h4
     exact h4
   have h5:=condW_of h4 (w_not (w_lt w_lit (w_len_list (w_arg rfl))))
   rw [List.length_map] at h5
   refine Nat.le_of_not_lt fun q=>?_
   have q':(n:Int)<((ns.length:Nat):Int):=by omega
   first
     | (rw [decide_eq_true q'] at h5;exact absurd h5 (by decide))
     | (simp at h5;omega)
 cases hwl with
 | cons w1 w2 =>
   cases w2
   cases w1 with
   | list ho hall=>exact⟨_,_,ns,rfl,rfl,ho,Dg ns _ hall,hlen⟩
theorem Uk (l:OpenLaw) (args:List WData):l.row.toRowW.claim.post args (.bool true) args=true :=
 postW_of (r:=l.row.toRowW) (X:=(true == true))
   (show WShape.has [] (.bool true) .bool=true by first | rfl | decide | simp [WShape.has,WShape.arms,WShape.armsAll])
   (show (WTm.eq .res (.lit (.bool true))).value [] { args:=args,res:=some (.bool true),after:=args } = some (.bool (true == true)) from w_eq_bool (w_res rfl) w_lit) rfl
section
variable {prog:Program}{w:World}{A:Around}{E:Value→Shared→Prop}{s:Shared}{K:Frag}
end
end Att
namespace L2
open PySem PySem.Spec PyProof.Rows
theorem JD:∀ {vs:List Value}{ns:List Int},IntsAre vs ns→Vals (ns.map V.int) vs
 | _,_,.nil=>.nil
 | _,_,.cons n t h=>.cons ⟨t,rfl⟩ (JD h)
end L2
namespace L2
open PySem PySem.Spec PyProof.Rows
abbrev KOf {K:PySem.W.Frag}{h:Heap} (_:K.In h):PySem.W.Frag:=K
end L2
namespace L2
open PySem PySem.Spec PyProof.Rows
def inClass (s:Stmt) (j:Nat):Stmt:=match s with
 | .ClassDef _ _ _ body _ _ _ _ _ _ _=>body.getD j (.Pass ⟨0,0,0,0⟩)
 | _=>.Pass ⟨0,0,0,0⟩
def ak (s:Stmt):Arguments:=match s with
 | .FunctionDef _ a _ _ _ _ _ _ _ _=>a
 | _=>{ posonlyargs:=[],args:=[],vararg:=none,kwonlyargs:=[],kw_defaults:=[],kwarg:=none,defaults:=[] }
def aj (s:Stmt):List Stmt:=match s with
 | .FunctionDef _ _ b _ _ _ _ _ _ _=>b
 | _=>[]
def aa (s:Stmt):Scope:=match s with
 | .FunctionDef _ _ _ _ _ _ sc _ _ _=>sc
 | _=>{ kind:=.function,names:=[],isGenerator:=false,isCoroutine:=false }
abbrev bQ:HX:=fun _ _ _ _ _ _=>False
abbrev E0:XK:=fun _ _ _=>False
theorem zQ {X:Cx}:Passes bQ X E0:=fun _ _ _ _ _ _ _ h=>h.elim
structure fJ (K:PySem.W.Frag) (x qual:Str) (st:Stmt) (f:Addr) (fd:FuncData):Prop where
 ex:∃ (oc:Value) (od:Option Addr) (kV doc pm:Value) (an:Option Addr) (cdv ct:Value) (osl:Array (Option Value)),
   fd=PySem.W.fnOf x qual (ak st) (aj st) (aa st) .none kV doc pm an cdv ct∧K.lookup f=some ⟨oc,od,.func fd,osl⟩∧PySem.W.codeIn K cdv qual=true
 kp:PySem.W.keepIn K (.ref f)=true
section
variable {P:Program}{w:World}{K:PySem.W.Frag}{mg:Str→Option Value}{base:Heap}
theorem fJ.ok {x qual:Str}{st:Stmt}{f:Addr}{fd:FuncData}{N ps:List Str}{k:Nat}{sp:Sp} (F:fJ K x qual st f fd) (S:au N ps (aa st)) (len:∀ vs H Q E,sp vs H Q E→vs.length=ps.length)
   (hbody:∀ (cdv:Value) (A:Around) (outer:List Env) (s:Shared) (H:Hp) (vs:List V) (Q:VK) (E:XK),fD k (A.deeper (envOfC qual (aa st) s.heap.objs.size f cdv))→sp vs H Q E →
     ∃ t,m6 (Kg bQ P w K mg base N qual (aa st) f cdv A outer s H E).Ej (aj st) t∧t { nx:=fun _ H'=>Q .non H',rt:=Q } (start N vs) H):aG P w K mg base bQ (k+1) f fd ps sp:=by
 obtain⟨oc,od,kV,doc,pm,an,cdv,ct,osl,rfl,lk,hcd⟩:=F.ex
 refine SN lk hcd S len fun A outer s H vs Q E hr hsp=>?_
 obtain⟨t,h,q⟩:=hbody cdv A outer s H vs Q E hr hsp
 exact⟨t,h.Ej,q⟩
theorem fJ.binds {x qual:Str}{st:Stmt}{f:Addr}{fd:FuncData}{ps:List Str} (F:fJ K x qual st f fd)
   (h:∀ (kV doc pm:Value) (an:Option Addr) (cdv ct:Value) (us:List Value),us.length=ps.length→bindArgs (PySem.W.fnOf x qual (ak st) (aj st) (aa st) .none kV doc pm an cdv ct) ⟨us,[]⟩=pure (ps.zip us)):Binds K fd ps []:=by
 obtain⟨oc,od,kV,doc,pm,an,cdv,ct,osl,rfl,lk,hcd⟩:=F.ex
 exact .all (h kV doc pm an cdv ct)
theorem ao {x qual:Str}{st:Stmt}{f:Addr}{oc:Value}{od an:Option Addr}{osl:Array (Option Value)}{kV doc pm cdv ct:Value} (l:K.lookup f=some ⟨oc,od,.func (PySem.W.fnOf x qual (ak st) (aj st) (aa st) .none kV doc pm an cdv ct),osl⟩)
   (c:PySem.W.codeIn K cdv qual=true) (k:PySem.W.keepIn K (.ref f)=true):fJ K x qual st f (PySem.W.fnOf x qual (ak st) (aj st) (aa st) .none kV doc pm an cdv ct):=⟨⟨oc,od,kV,doc,pm,an,cdv,ct,osl,rfl,l,c⟩,k⟩
end
theorem xG {A:Around}{k:Nat} (hr:fD k A):A.units+1<cLine:=Nat.lt_of_le_of_lt (Nat.add_le_add_left (by decide:1≤64) _) hr.units
section
variable {X:Cx}
theorem pv (i:Nat) {x:Str}{pos:Pos} (hN:X.N[i]? = some x:=by rfl) (hv:Vis X.env.scope x:=by first | exact Or.inl rfl | exact Or.inr (Or.inl rfl) | exact Or.inr (Or.inr rfl)) (hd:(x == ("__debug__":Str))=false:=by decide)
   (hcd:(x == ("__classdict__":Str))=false:=by decide):PE X (.Name x pos) (mJ i):=abN hN hv hd hcd
end
theorem aF {A B:Prop} (h:B):if false=true then A else B:=by
 rw [if_neg Bool.false_ne_true]
 exact h
theorem bA {A B:Prop} (h:A):if true=true then A else B:=by
 rw [if_pos rfl]
 exact h
theorem lC {c A B:Prop} [Decidable c] (h1:c→A) (h2:¬ c→B):if c then A else B:=by
 by_cases h:c
 · rw [if_pos h]
   exact h1 h
 · rw [if_neg h]
   exact h2 h
def aA (H H':Hp):Prop:=∀ b o,H b=some o→H' b=some o
theorem aA.refl (H:Hp):aA H H:=fun _ _ h=>h
theorem aA.trans {H H1 H2:Hp} (a:aA H H1) (b:aA H1 H2):aA H H2:=fun c o h=>b c o (a c o h)
theorem aA.free {H H':Hp} (e:aA H H') {l:Addr} (h:H' l=Option.none):H l=Option.none:=by
 cases q:H l with
 | none=>rfl
 | some o =>
   rw [e l o q] at h
   cases h
theorem aA.seq {K:PySem.W.Frag}{H H':Hp}{a:Addr}{xs:List V} (e:aA H H') (h:bR K H a xs):bR K H' a xs:=by
 rcases h with (h | ⟨o,h⟩) | h
 · exact .inl (.inl (e _ _ h))
 · exact .inl (.inr ⟨o,e _ _ h⟩)
 · exact .inr h
end L2
namespace L2
open PySem PySem.Spec PyProof.Rows
section
variable {κ:Type} [DecidableEq κ]
def eF (kvs:List (κ × V)) (k:κ):Option V:=(kvs.find? fun kv=>decide (kv.1=k)).map (·.2)
def putK (kvs:List (κ × V)) (k:κ) (v:V):List (κ × V) :=
 if (kvs.any fun kv=>decide (kv.1=k))=true then kvs.map (fun kv=>if kv.1=k then (kv.1,v) else kv) else kvs++[(k,v)]
def aa2 (kvs:List (κ × V)) (k:κ):List (κ × V):=kvs.filter fun kv=>decide (kv.1≠k)
theorem xD {p:κ × V}{r:List (κ × V)}{k:κ} (e:p.1=k):eF (p::r) k=some p.2:=by simp [eF,List.find?_cons,e]
theorem xB {p:κ × V}{r:List (κ × V)}{k:κ} (e:¬ p.1=k):eF (p::r) k=eF r k:=by simp [eF,List.find?_cons,e]
theorem wV (k:κ):∀ kvs:List (κ × V),(kvs.any fun kv=>decide (kv.1=k))=(eF kvs k).isSome
 | []=>rfl
 | p::r=>by
   rw [List.any_cons]
   by_cases e:p.1=k
   · simp only [xD e,decide_eq_true e,Bool.true_or,Option.isSome_some]
   · rw [xB e,decide_eq_false e,Bool.false_or];exact wV k r
theorem M4 (k j:κ) (y:V):∀ kvs:List (κ × V),eF (kvs.map fun kv=>if kv.1=k then (kv.1,y) else kv) j=(eF kvs j).map fun x=>if j=k then y else x
 | []=>rfl
 | p::r=>by
   have ih:=M4 k j y r
   rw [List.map_cons]
   by_cases h:p.1=k
   · rw [if_pos h]
     by_cases e:p.1=j
     · rw [xD (p:=(p.1,y)) e,xD e,Option.map_some,if_pos (e.symm.trans h)]
     · rw [xB (p:=(p.1,y)) e,xB e,ih]
   · rw [if_neg h]
     by_cases e:p.1=j
     · rw [xD (p:=p) e,xD e,Option.map_some,if_neg (fun z=>h (e.trans z))]
     · rw [xB (p:=p) e,xB e,ih]
theorem JG (k j:κ) (y:V):∀ kvs:List (κ × V),eF kvs k=none→eF (kvs++[(k,y)]) j=if j=k then some y else eF kvs j
 | [],_=>by
   by_cases e:k=j
   · rw [if_pos e.symm];exact xD (p:=(k,y)) e
   · rw [if_neg (fun z=>e z.symm)];exact xB (p:=(k,y)) e
 | p::r,hn=>by
   rw [List.cons_append]
   have hk:¬ p.1=k:=fun z=>by rw [xD z] at hn;cases hn
   rw [xB hk] at hn
   have ih:=JG k j y r hn
   by_cases e:p.1=j
   · rw [xD e,xD e,if_neg (fun z=>hk (e.trans z))]
   · rw [xB e,xB e,ih]
theorem lD (kvs:List (κ × V)) (k j:κ) (y:V):eF (putK kvs k y) j=if j=k then some y else eF kvs j:=by
 unfold putK
 by_cases a:(kvs.any fun kv=>decide (kv.1=k))=true
 · rw [if_pos a,M4]
   rw [wV] at a
   by_cases e:j=k
   · obtain⟨x,hx⟩:=Option.isSome_iff_exists.mp a
     rw [if_pos e,e,hx,Option.map_some,if_pos rfl]
   · rw [if_neg e]
     cases eF kvs j with
     | none=>rfl
     | some x=>rw [Option.map_some,if_neg e]
 · rw [if_neg a]
   refine JG k j y kvs ?_
   rw [wV] at a
   cases q:eF kvs k with
   | none=>rfl
   | some x=>rw [q] at a;exact (a rfl).elim
theorem lE (kvs:List (κ × V)) (k:κ) (v:V):(putK kvs k v).length≤kvs.length+1:=by
 unfold putK
 split
 · rw [List.length_map];omega
 · rw [List.length_append,List.length_cons,List.length_nil];omega
theorem rK.pZ {o:Option V}{u:Option Value} (r:rK o u):o.isSome=u.isSome:=by
 cases o with
 | none=>cases u with
   | none=>rfl
   | some _=>exact (show False from r).elim
 | some _=>cases u with
   | none=>exact (show False from r).elim
   | some _=>rfl
theorem rK.getD {o:Option V}{u:Option Value}{d:V}{d':Value} (r:rK o u) (rd:RelV d d'):RelV (o.getD d) (u.getD d'):=by
 cases o with
 | none=>cases u with
   | none=>exact rd
   | some _=>exact (show False from r).elim
 | some _=>cases u with
   | none=>exact (show False from r).elim
   | some _=>exact r
theorem KV.val {kvs:List (κ × V)}{vs:List (κ × Value)} (r:KV kvs vs) (k:κ):rK (eF kvs k) (valueAt vs k):=by
 unfold KV at r
 induction r with
 | nil=>exact True.intro
 | @cons p q ps qs h t ih =>
   obtain⟨h1,h2⟩:=h
   by_cases e:p.1=k
   · have e':q.1=k:=h1.symm.trans e
     have b:valueAt (q::qs) k=some q.2:=by simp [valueAt,List.find?_cons,e']
     rw [xD e,b];exact h2
   · have e':¬ q.1=k:=fun z=>e (h1.trans z)
     have b:valueAt (q::qs) k=valueAt qs k:=by simp [valueAt,List.find?_cons,e']
     rw [xB e,b];exact ih
theorem KV.any {kvs:List (κ × V)}{vs:List (κ × Value)} (r:KV kvs vs) (k:κ):(kvs.any fun kv=>decide (kv.1=k))=vs.any fun kv=>decide (kv.1=k):=by
 unfold KV at r
 induction r with
 | nil=>rfl
 | cons h t ih=>rw [List.any_cons,List.any_cons,ih,h.1]
theorem KV.repl {kvs:List (κ × V)}{vs:List (κ × Value)} (r:KV kvs vs) (k:κ) {y:V}{u:Value} (ry:RelV y u) :
   KV (kvs.map fun kv=>if kv.1=k then (kv.1,y) else kv) (vs.map fun kv=>if kv.1=k then (kv.1,u) else kv):=by
 unfold KV at r ⊢
 induction r with
 | nil=>exact .nil
 | @cons p q ps qs h t ih =>
   rw [List.map_cons,List.map_cons]
   refine .cons ?_ ih
   obtain⟨h1,h2⟩:=h
   by_cases e:p.1=k
   · rw [if_pos e,if_pos (h1.symm.trans e)];exact⟨h1,ry⟩
   · rw [if_neg e,if_neg (fun z=>e (h1.trans z))];exact⟨h1,h2⟩
theorem KV.put {kvs:List (κ × V)}{vs:List (κ × Value)} (r:KV kvs vs) (k:κ) {y:V}{u:Value} (ry:RelV y u):KV (putK kvs k y) (stored vs k u):=by
 unfold putK stored
 rw [r.any k]
 by_cases e:(vs.any fun kv=>decide (kv.1=k))=true
 · rw [if_pos e,if_pos e];exact r.repl k ry
 · rw [if_neg e,if_neg e];exact Paired.snoc r ⟨rfl,ry⟩
theorem KV.drop {kvs:List (κ × V)}{vs:List (κ × Value)} (r:KV kvs vs) (k:κ):KV (aa2 kvs k) (without vs k):=by
 unfold KV at r ⊢
 unfold aa2 without
 induction r with
 | nil=>exact .nil
 | @cons p q ps qs h t ih =>
   obtain⟨h1,h2⟩:=h
   rw [List.filter_cons,List.filter_cons]
   by_cases e:p.1=k
   · have a:¬ decide (p.1≠k)=true:=by simp [e]
     have b:¬ decide (q.1≠k)=true:=by simp [h1.symm.trans e]
     rw [if_neg a,if_neg b];exact ih
   · have e':¬ q.1=k:=fun z=>e (h1.trans z)
     have a:decide (p.1≠k)=true:=by simp [e]
     have b:decide (q.1≠k)=true:=by simp [e']
     rw [if_pos a,if_pos b];exact .cons ⟨h1,h2⟩ ih
theorem KV.keys {kvs:List (κ × V)}{vs:List (κ × Value)} (r:KV kvs vs):kvs.map (·.1)=vs.map (·.1):=by
 unfold KV at r
 induction r with
 | nil=>rfl
 | cons h t ih=>rw [List.map_cons,List.map_cons,ih,h.1]
theorem KV.length {kvs:List (κ × V)}{vs:List (κ × Value)} (r:KV kvs vs):kvs.length=vs.length:=Paired.length r
end
theorem Ff {P:Program}{w:World}{k:Key}{u:Value} (r:RelV (kV k) u):(dh P w).is k u=true:=by
 cases k with
 | inl i=>obtain⟨t,e⟩:=(show ∃ t,u=Value.int i t from r);subst e;exact Mz P w i t
 | inr x=>obtain⟨t,e⟩:=(show ∃ t,u=Value.str x t from r);subst e;exact MF P w x t
theorem JH {P:Program}{w:World}:∀ {ks:List Key}{us:List Value},Vals (ks.map kV) us→ItemsAre (dh P w) ks us
 | [],_,r=>by rw [List.map_nil] at r;cases r;exact .nil
 | k::ks,_,r=>by
   rw [List.map_cons] at r
   cases r with
   | cons h t=>exact .cons (Ff h) (JH t)
abbrev KT (H:Hp):List (List Key × V)→List (List Key × Addr × Value)→Prop:=Paired fun p q=>p.1=q.1∧H q.2.1=some (.tup (p.1.map kV))∧RelV p.2 q.2.2
theorem KT.val {H:Hp}{kvs:List (List Key × V)}{xs:List (List Key × Addr × Value)} (r:KT H kvs xs) (k:List Key):rK (eF kvs k) ((atKey xs k).map (·.2)):=by
 induction r with
 | nil=>exact True.intro
 | @cons p q ps qs h t ih =>
   obtain⟨h1,_,h2⟩:=h
   by_cases e:p.1=k
   · have e':q.1=k:=h1.symm.trans e
     have b:atKey (q::qs) k=some q.2:=by simp [atKey,List.find?_cons,e']
     rw [xD e,b];exact h2
   · have e':¬ q.1=k:=fun z=>e (h1.trans z)
     have b:atKey (q::qs) k=atKey qs k:=by simp [atKey,List.find?_cons,e']
     rw [xB e,b];exact ih
theorem KT.repl {H:Hp}{kvs:List (List Key × V)}{xs:List (List Key × Addr × Value)} (r:KT H kvs xs) (k:List Key) {y:V}{u:Value} (ry:RelV y u) :
   KT H (kvs.map fun kv=>if kv.1=k then (kv.1,y) else kv) (xs.map (putAt k u)):=by
 induction r with
 | nil=>exact .nil
 | @cons p q ps qs h t ih =>
   rw [List.map_cons,List.map_cons]
   refine .cons ?_ ih
   obtain⟨h1,h2,h3⟩:=h
   unfold putAt
   by_cases e:p.1=k
   · rw [if_pos e,if_pos (h1.symm.trans e)];exact⟨h1,h2,ry⟩
   · rw [if_neg e,if_neg (fun z=>e (h1.trans z))];exact⟨h1,h2,h3⟩
theorem KT.put {H:Hp}{kvs:List (List Key × V)}{xs:List (List Key × Addr × Value)} (r:KT H kvs xs) (k:List Key) {b:Addr}{y:V}{u:Value} (hb:H b=some (.tup (k.map kV))) (ry:RelV y u) :
   KT H (putK kvs k y) (storedH xs k b u):=by
 have e:(kvs.any fun kv=>decide (kv.1=k))=(atKey xs k).isSome:=by
   rw [wV,(r.val k).pZ,Option.isSome_map]
 unfold putK storedH
 rw [e]
 by_cases q:(atKey xs k).isSome=true
 · rw [if_pos q,if_pos q];exact r.repl k ry
 · rw [if_neg q,if_neg q];exact Paired.snoc r ⟨rfl,hb,ry⟩
theorem KT.keeps {H H':Hp}{kvs:List (List Key × V)}{xs:List (List Key × Addr × Value)} (r:KT H kvs xs) (ht:∀ b ys,H b=some (.tup ys)→H' b=some (.tup ys)):KT H' kvs xs :=
 Paired.Zf r fun _ _ z=>⟨z.1,ht _ _ z.2.1,z.2.2⟩
section
variable {P:Program}{w:World}{H:Hp}{h:Heap}{a:Addr}
theorem aa3 {u:HO} (ok:rU P w H h) (e:Rd H a u):cI P w H h a u:=e.ok ok
theorem Ce {kvs:List (Key × V)} (ok:rU P w H h) (e:Rd H a (.dK kvs)):kvs.length≤sizeLine∧(a == sysModules)=false∧∃ vs,KV kvs vs∧h.DictOf (dh P w) a vs :=
 show cI P w H h a (.dK kvs) from aa3 ok e
theorem af2 {kvs:List (Key × V)} (ok:rU P w H h) (e:H a=some (.dK kvs)):kvs.length≤sizeLine∧(a == sysModules)=false∧∃ vs,KV kvs vs∧h.DictOf (dh P w) a vs:=Ce ok (.inl e)
theorem vz {ks:List Key} (ok:rU P w H h) (e:H a=some (.tup (ks.map kV))):(tupleKind (dh P w)).is h ks a:=by
 obtain⟨_,its,r,o,h1,h2,n,h3⟩:=(show cI P w H h a (.tup (ks.map kV)) from ok a _ e)
 exact⟨o,its.toArray,n,h1,h2,h3,by simpa using JH r⟩
theorem Cg {kvs:List (List Key × V)} (ok:rU P w H h) (e:Rd H a (.dT kvs)):kvs.length≤sizeLine∧(a == sysModules)=false ∧
   ∃ xs,KT H kvs xs∧h.DictOfH (tupleKind (dh P w)) a xs:=by
 obtain⟨z,y,xs,r,o,es,ep,h1,h2,h3,h4,h5⟩:=(show cI P w H h a (.dT kvs) from aa3 ok e)
 refine⟨z,y,xs,r,o,es,ep,h1,h2,h3,h4,fun x hx=>?_,h5⟩
 have all:∀ {l:List (List Key × V)}{m:List (List Key × Addr × Value)},KT H l m→∀ x∈m,(tupleKind (dh P w)).is h x.1 x.2.1:=by
   intro l m q
   induction q with
   | nil=>intro x hx;exact nomatch hx
   | @cons p q ps qs hq t ih =>
     intro x hx
     rcases List.mem_cons.mp hx with e | hx
     · subst e
       exact vz ok (by rw [← hq.1];exact hq.2.1)
     · exact ih x hx
 exact all r x hx
theorem V5 {kvs:List (List Key × V)} (ok:rU P w H h) (e:H a=some (.dT kvs)):kvs.length≤sizeLine∧(a == sysModules)=false ∧
   ∃ xs,KT H kvs xs∧h.DictOfH (tupleKind (dh P w)) a xs:=Cg ok (.inl e)
end
def gr (H:Hp) (a:Addr) (y:V) (r:Option V):Prop :=
 (∃ kvs k,Rd H a (.dK kvs)∧y=kV k∧r=eF kvs k)∨∃ kvs k b,Rd H a (.dT kvs)∧y=.ref b∧H b=some (.tup (k.map kV))∧r=eF kvs k
def Dh (H:Hp) (a:Addr) (y v:V) (H':Hp):Prop :=
 (∃ kvs k,H a=some (.dK kvs)∧y=kV k∧kvs.length<sizeLine∧H'=upd H a (.dK (putK kvs k v))) ∨
 ∃ kvs k b,H a=some (.dT kvs)∧y=.ref b∧H b=some (.tup (k.map kV))∧kvs.length<sizeLine∧H'=upd H a (.dT (putK kvs k v))
theorem gr.k {H:Hp}{a:Addr}{kvs:List (Key × V)}{k:Key} (e:H a=some (.dK kvs)):gr H a (kV k) (eF kvs k):=.inl ⟨kvs,k,.inl e,rfl,rfl⟩
theorem gr.t {H:Hp}{a b:Addr}{kvs:List (List Key × V)}{k:List Key} (e:H a=some (.dT kvs)) (eb:H b=some (.tup (k.map kV))):gr H a (.ref b) (eF kvs k):=.inr ⟨kvs,k,b,.inl e,rfl,eb,rfl⟩
theorem Dh.k {H:Hp}{a:Addr}{kvs:List (Key × V)}{k:Key}{v:V} (e:H a=some (.dK kvs)) (hl:kvs.length<sizeLine):Dh H a (kV k) v (upd H a (.dK (putK kvs k v))):=.inl ⟨kvs,k,e,rfl,hl,rfl⟩
theorem Dh.t {H:Hp}{a b:Addr}{kvs:List (List Key × V)}{k:List Key}{v:V} (e:H a=some (.dT kvs)) (eb:H b=some (.tup (k.map kV))) (hl:kvs.length<sizeLine) :
   Dh H a (.ref b) v (upd H a (.dT (putK kvs k v))):=.inr ⟨kvs,k,b,e,rfl,eb,hl,rfl⟩
section
variable {X:Cx}{pins:List (Addr × Obj)}{σ:St}{H:Hp}{s:Shared}{a:Addr}{y v:V}{u r:Value}{o:Option V}{A:Around}{E:Value→Shared→Prop}
theorem Inv.big (I:Inv X pins σ H s):sysModules<s.heap.objs.size:=by
 have h:mainGlobals<s.heap.objs.size:=(I.mod.glob.keeps I.bk).lt
 exact Nat.lt_trans (by decide) h
theorem Ul {Q:Value→Shared→Prop} (hu:A.units+1<cLine) (I:Inv X pins σ H s) (g:gr H a y (some v)) (ry:RelV y u) (h:∀ w' s',Inv X pins σ H s'→RelV v w'→Q w' s') :
   wpAny (model X.prog X.w) A (getItem (.ref a) u) Q E s:=by
 rcases g with ⟨kvs,k,e,ey,l⟩ | ⟨kvs,k,b,e,ey,eb,l⟩
 · subst ey
   obtain⟨z,hd,vs,rel,dd⟩:=Ce I.hok e
   obtain⟨w',hw,Df⟩:=rK.some_of (v:=v) (o:=valueAt vs k) (by rw [l];exact rel.val k)
   exact wpAny_getItem_of (Ff ry) dd.mapOf hw (h w' _ (I.tok _) Df)
 · subst ey
   cases (show u=Value.ref b from ry)
   obtain⟨z,hd,xs,rel,dd⟩:=Cg I.hok e
   obtain⟨w',hw,Df⟩:=rK.some_of (v:=v) (o:=(atKey xs k).map (·.2)) (by rw [l];exact rel.val k)
   obtain⟨p,hp,hp2⟩:=Option.map_eq_some_iff.mp hw
   refine wpAny_getItem_heap (tupleKind_room_in1 hu) (vz I.hok eb) dd hp ?_
   rw [hp2]
   exact h w' _ (I.tok _) Df
theorem atx {Q:Value→Shared→Prop} (hu:A.units+1<cLine) (I:Inv X pins σ H s) (g:gr H a y o) (ry:RelV y u) (h:∀ s',Inv X pins σ H s'→Q (.bool o.isSome) s') :
   wpAny (model X.prog X.w) A (compareOp .In u (.ref a)) Q E s:=by
 rcases g with ⟨kvs,k,e,ey,l⟩ | ⟨kvs,k,b,e,ey,eb,l⟩
 · subst ey
   obtain⟨z,hd,vs,rel,dd⟩:=Ce I.hok e
   refine wpAny_in_of (Ff ry) hd dd.mapOf ?_
   rw [← (rel.val k).pZ,← l]
   exact h _ (I.tok _)
 · subst ey
   cases (show u=Value.ref b from ry)
   obtain⟨z,hd,xs,rel,dd⟩:=Cg I.hok e
   refine wpAny_in_heap (tupleKind_room_in1 hu) (vz I.hok eb) hd dd ?_
   have q:=(rel.val k).pZ
   rw [Option.isSome_map] at q
   rw [← q,← l]
   exact h _ (I.tok _)
theorem ZF {Q:Value→Shared→Prop} (hu:A.units+1<cLine) (I:Inv X pins σ H s) (g:gr H a y o) (ry:RelV y u) (h:∀ s',Inv X pins σ H s'→Q (.bool (!o.isSome)) s') :
   wpAny (model X.prog X.w) A (compareOp .NotIn u (.ref a)) Q E s:=by
 rcases g with ⟨kvs,k,e,ey,l⟩ | ⟨kvs,k,b,e,ey,eb,l⟩
 · subst ey
   obtain⟨z,hd,vs,rel,dd⟩:=Ce I.hok e
   refine wpAny_notIn_of (Ff ry) hd dd.mapOf ?_
   rw [← (rel.val k).pZ,← l]
   exact h _ (I.tok _)
 · subst ey
   cases (show u=Value.ref b from ry)
   obtain⟨z,hd,xs,rel,dd⟩:=Cg I.hok e
   refine wpAny_notIn_heap (tupleKind_room_in1 hu) (vz I.hok eb) hd dd ?_
   have q:=(rel.val k).pZ
   rw [Option.isSome_map] at q
   rw [← q,← l]
   exact h _ (I.tok _)
theorem S9 {h':Heap}{t':Nat}{ob:HO} (I:Inv X pins σ H s) (mu:Mut (H a)) (hs:Heap.SameBut a s.heap h') (he:∃ q,h'.get? a=some q) (new:cI X.prog X.w (upd H a ob) h' a ob) :
   Inv X pins σ (upd H a ob) { s with heap:=h',toks:=t' } :=
 I.write (x:=a) (e:=a) mu (.inl rfl) (fun b q hb z=>(hs.2 b hb).trans z) he new
theorem ab2 {P:Program}{w:World}{H':Hp}{h':Heap}{kvs:List (Key × V)}{vs:List (Key × Value)} (z:kvs.length≤sizeLine) (hd:(a == sysModules)=false) (rel:KV kvs vs) (dd:h'.DictOf (dh P w) a vs) :
   cI P w H' h' a (.dK kvs):=⟨z,hd,vs,rel,dd⟩
theorem Um {H':Hp}{Q:Unit→Shared→Prop} (hu:A.units+1<cLine) (I:Inv X pins σ H s) (g:Dh H a y v H') (ry:RelV y u) (rv:RelV v r) (h:∀ s',Inv X pins σ H' s'→Q () s') :
   wpAny (model X.prog X.w) A (setItem (.ref a) u r) Q E s:=by
 rcases g with ⟨kvs,k,e,ey,l,eH⟩ | ⟨kvs,k,b,e,ey,eb,l,eH⟩
 · subst ey eH
   obtain⟨z,hd,vs,rel,dd⟩:=af2 I.hok e
   have hz:vs.length≤sizeLine:=by rw [← rel.length];exact z
   have hl:(putK kvs k v).length≤sizeLine:=by have:=lE kvs k v;omega
   refine wpAny_setItem_pairs (hsz:=hz) (Ff ry) dd fun h' dd' hs=>h _ ?_
   have he:∃ q,h'.get? a=some q:=let ⟨q,_,_,hq,_⟩:=dd'; ⟨q,hq⟩
   exact S9 I (by rw [e];exact True.intro) hs he (ab2 hl hd (rel.put k rv) dd')
 · subst ey eH
   cases (show u=Value.ref b from ry)
   obtain⟨z,hd,xs,rel,dd⟩:=V5 I.hok e
   have hz:xs.length≤sizeLine:=by rw [← Paired.length rel];exact z
   have hl:(putK kvs k v).length≤sizeLine:=by have:=lE kvs k v;omega
   refine wpAny_setItem_heap (hsz:=hz) (tupleKind_room_in1 hu) (vz I.hok eb) dd fun h' dd' hs=>h _ ?_
   obtain⟨q,es,ep,hq,h2,h3,h4,_,h5⟩:=dd'
   refine S9 I (by rw [e];exact True.intro) hs ⟨q,hq⟩ ⟨hl,hd,_,(rel.put k eb rv).keeps fun c ys ec=>?_,q,es,ep,hq,h2,h3,h4,h5⟩
   rw [zI (yN ec e (fun z=>nomatch z))]
   exact ec
end
section
variable {X:Cx}{pins:List (Addr × Obj)}{σ:St}{H:Hp}{s:Shared}{a:Addr}{kvs:List (Key × V)}{k:Key}{u:Value}{A:Around}{E:Value→Shared→Prop}
end
def af3 (i:Expr):Prop:=∀ ov iv,subscripted i false ov iv=operate [ov,iv] (getItem ov iv)
theorem ZG {prog:Program}{w:World}{A:Around}{E:Value→Shared→Prop}{s:Shared}{env:Env}{value slice:Expr}{pos:Pos}{T id:String}{Q:Value→Shared→Prop}
   (hl:typeLookup (.type T) "__getitem__" = pure (some (.builtin id))) (hs:af3 slice)
   (h:wpAny (model prog w) A (eval value env) (fun o s₁=>wpAny (model prog w) A (eval slice env) (fun i s₂=>s₂.TypeIs o T∧wpAny (model prog w) A (getItem o i) Q E s₂) E s₁) E s) :
   wpAny (model prog w) A (eval (.Subscript value slice pos) env) Q E s:=by
 refine Subscript_ (wpAny_mono h (fun o s₁ h₁=>wpAny_mono h₁ (fun i s₂ h₂=>?_) fun _ _ x=>x) fun _ _ x=>x)
 obtain⟨hT,h₂⟩:=h₂
 unfold subscriptTail
 refine wpAny_bind ?_
 rw [getitemInPython_of_ne hT.not_modules]
 refine wpAny_bind (wpAny_specialOf hT hl ?_)
 have fin:wpAny (model prog w) A (subscripted slice false o i) (fun r s₃=>wpAny (model prog w) A (letTemporaryGo value o r >>= fun _=>pure r) Q E s₃) E s₂:=by
   rw [hs o i]
   exact wpAny_operating (wpAny_mono h₂ (fun r s₃ h₃=>wpAny_bind (wpAny_letTemporaryGo (wpAny_pure h₃))) fun _ _ x=>x)
 first
   | exact wpAny_pure (wpAny_bind fin)
   | exact wpAny_bind (wpAny_pure (wpAny_bind fin))
   | exact wpAny_bind fin
theorem M5 {X:Cx}{pins:List (Addr × Obj)}{σ:St}{H:Hp}{s:Shared}{a:Addr}{y:V}{o:Option V} (I:Inv X pins σ H s) (g:gr H a y o):s.TypeIs (.ref a) "dict":=by
 rcases g with ⟨kvs,k,e,_,_⟩ | ⟨kvs,k,b,e,_,_,_⟩
 · obtain⟨_,_,vs,_,dd⟩:=Ce I.hok e
   exact dd.typeIs
 · obtain⟨_,_,xs,_,dd⟩:=Cg I.hok e
   exact dd.typeIs
def af4 (td ty:TE):TE:=fun σ H Q=>td σ H fun x H1=>ty σ H1 fun y H2=>∃ a v,x=.ref a∧gr H2 a y (some v)∧Q v H2
def af5 (td ty tv:TE):TS:=fun D σ H=>tv σ H fun v H1=>td σ H1 fun x H2=>ty σ H2 fun y H3=>∃ a H4,x=.ref a∧Dh H3 a y v H4∧D.nx σ H4
section
variable {X:Cx}{o i e value:Expr}{pos pos' tpos:Pos}{td ty tv:TE}
theorem oN (hu:X.A.units+1<cLine) (ho:PE X o td) (hi:PE X i ty) (hs:af3 i):PE X (.Subscript o i pos) (af4 td ty):=by
 intro pins s σ H Q I h
 refine ZG PySem.F.slot_dict_getitem.lookup hs (d9 (ho pins s σ H _ I h) fun u s1 ⟨x,H1,I1,rx,q1⟩=>d9 (hi pins s1 σ H1 _ I1 q1) fun iv s2 zq=>?_)
 obtain⟨y,H2,I2,ry,a,v,ex,g,q2⟩:=zq
 subst ex
 obtain rfl:u=Value.ref a:=rx
 exact⟨M5 I2 g,Ul hu I2 g ry fun w' s3 I3 Df=>⟨v,H2,I3,Df,q2⟩⟩
theorem ug (hu:X.A.units+1<cLine) (ho:PE X o td) (hi:PE X i ty) (hv:PE X value tv) (hs:swapsWith value (some (.Subscript o i pos')) pos.line X.env=pure false) :
   PS X (.Assign [.Subscript o i pos'] value pos) (af5 td ty tv):=by
 intro pins s σ H D I h
 refine wpAny_Assign_Subscript (d9 (hv pins s σ H _ I h) fun r s1 ⟨v,H1,I1,rv,q1⟩=>d9 (ho pins s1 σ H1 _ I1 q1) fun u s2 ⟨x,H2,I2,rx,q2⟩=>d9 (hi pins s2 σ H2 _ I2 q2) fun iv s3 ⟨y,H3,I3,ry,a,H4,ex,g,q3⟩=>?_) hs
 subst ex
 obtain rfl:u=Value.ref a:=rx
 exact Um hu I3 g ry rv fun s4 I4=>⟨σ,H4,I4,q3⟩
end
theorem V6 {P:Program}{w:World}{H:Hp} (h:Heap) (hb:sysModules<h.objs.size):cI P w H (h.push { cls:=.type "dict",data:=.dict #[] }) h.objs.size (.dK []) :=
 ⟨Nat.zero_le _,beq_eq_false_iff_ne.mpr (Ne.symm (Nat.ne_of_lt hb)),[],.nil,Heap.DictOf.new h⟩
theorem M6 {P:Program}{w:World}{H:Hp} (h:Heap) (hb:sysModules<h.objs.size):cI P w H (h.push { cls:=.type "dict",data:=.dict #[] }) h.objs.size (.dT []) :=
 ⟨Nat.zero_le _,beq_eq_false_iff_ne.mpr (Ne.symm (Nat.ne_of_lt hb)),[],.nil,_,#[],0,Heap.get?_push_size _ rfl,⟨rfl,rfl,rfl⟩,rfl,rfl,List.nodup_nil⟩
def ab3:TE:=fun _ H Q=>∀ p,H p=none→Q (.ref p) (upd H p (.dK []))
def ab4:TE:=fun _ H Q=>∀ p,H p=none→Q (.ref p) (upd H p (.dT []))
section
variable {X:Cx}{pos:Pos}
theorem p7:PE X (.Dict [] [] pos) ab3:=fun pins s σ H Q I h =>
 wpAny_Dict_empty ⟨.ref s.heap.objs.size,_,I.laid (a:=s.heap.objs.size) (o:=.dK []) (t':=s.toks) (fun _ _ q=>Heap.get?_push_of_some _ q) (Nat.le_refl _) (V6 s.heap I.big),rfl,h _ (I.hok.fresh (Nat.le_refl _))⟩
theorem M7:PE X (.Dict [] [] pos) ab4:=fun pins s σ H Q I h =>
 wpAny_Dict_empty ⟨.ref s.heap.objs.size,_,I.laid (a:=s.heap.objs.size) (o:=.dT []) (t':=s.toks) (fun _ _ q=>Heap.get?_push_of_some _ q) (Nat.le_refl _) (M6 s.heap I.big),rfl,h _ (I.hok.fresh (Nat.le_refl _))⟩
end
def V7:List (TE × TE)→St→Hp→(List (V × V)→Hp→Prop)→Prop
 | [],_,H,Q=>Q [] H
 | (tk,tv)::r,σ,H,Q=>tk σ H fun x H1=>tv σ H1 fun y H2=>V7 r σ H2 fun ps H3=>Q ((x,y)::ps) H3
abbrev VV:List (V × V)→List (Value × Value)→Prop:=Paired fun p q=>RelV p.1 q.1∧RelV p.2 q.2
def wW (X:Cx) (pos:Pos) (keys:List (Option Expr)) (values:List Expr) (trs:List (TE × TE)):Prop :=
 ∀ (pins:List (Addr × Obj)) (s:Shared) (σ:St) (H:Hp) (Q:List (V × V)→Hp→Prop),Inv X pins σ H s→V7 trs σ H Q →
   wpAny (model X.prog X.w) X.A (evalPairs (pairTrees keys values X.env pos)) (fun vs s'=>∃ ps H',Inv X pins σ H' s'∧VV ps vs∧Q ps H') X.xe s
def ab5 (kvs more:List (Key × V)):List (Key × V):=more.foldl (fun acc kv=>putK acc kv.1 kv.2) kvs
theorem KV.merge:∀ {more:List (Key × V)}{rs:List (Key × Value)}{kvs:List (Key × V)}{vs:List (Key × Value)},KV more rs→KV kvs vs→KV (ab5 kvs more) (merged vs rs):=by
 intro more rs kvs vs r
 unfold KV at r
 induction r generalizing kvs vs with
 | nil=>intro q;exact q
 | @cons p q ps qs h t ih =>
   intro r0
   have e:KV (putK kvs p.1 p.2) (stored vs q.1 q.2):=by
     have:=r0.put p.1 h.2
     rw [← h.1];exact this
   exact ih e
structure M1 (X:Cx) (o:Expr) (m:Str) (apos:Pos) (e:Expr) (cpos:Pos):Prop where
 base:attributeBase o m X.env (eval o X.env)=eval o X.env
 few:((backTo cpos (starEach [e] X.env)).all (fun x=>!x.1) && (backToKw cpos (keywordEach [] X.env)).all (fun x=>x.1.isSome)
   && decide (([e]:List Expr).length+([]:List Keyword).length+(if ([]:List Keyword).isEmpty then 0 else 1)<30))=true
 line:(apos.endLine == cpos.line)=true
 trees:backTo cpos (starEach [e] X.env)=[(false,eval e X.env)]
structure M2 (X:Cx) (o:Expr) (m:Str) (apos:Pos) (e f:Expr) (cpos:Pos):Prop where
 base:attributeBase o m X.env (eval o X.env)=eval o X.env
 few:((backTo cpos (starEach [e,f] X.env)).all (fun x=>!x.1) && (backToKw cpos (keywordEach [] X.env)).all (fun x=>x.1.isSome)
   && decide (([e,f]:List Expr).length+([]:List Keyword).length+(if ([]:List Keyword).isEmpty then 0 else 1)<30))=true
 line:(apos.endLine == cpos.line)=true
 trees:backTo cpos (starEach [e,f] X.env)=[(false,eval e X.env),(false,eval f X.env)]
def IsD (H:Hp) (a:Addr):Prop:=(∃ kvs,Rd H a (.dK kvs))∨∃ kvs,Rd H a (.dT kvs)
theorem V8 {X:Cx}{pins:List (Addr × Obj)}{σ:St}{H:Hp}{s:Shared}{a:Addr} (I:Inv X pins σ H s) (d:IsD H a) :
   s.TypeIs (.ref a) "dict"∧(∀ b,Value.ref a=.ref b→∃ ob,s.heap.get? b=some ob∧ob.dict=none)∧(a == sysModules)=false:=by
 rcases d with ⟨kvs,e⟩ | ⟨kvs,e⟩
 · obtain⟨_,hd,vs,_,dd⟩:=Ce I.hok e
   refine⟨dd.typeIs,fun b q=>?_,hd⟩
   cases q
   obtain⟨ob,_,_,h1,h2,_⟩:=dd
   exact⟨ob,h1,h2.2.1⟩
 · obtain⟨_,hd,xs,_,dd⟩:=Cg I.hok e
   refine⟨dd.typeIs,fun b q=>?_,hd⟩
   cases q
   obtain⟨ob,_,_,h1,h2,_⟩:=dd
   exact⟨ob,h1,h2.2.1⟩
section
variable {X:Cx}{pins:List (Addr × Obj)}{σ:St}{H:Hp}{s:Shared}{a:Addr}{y d:V}{u r:Value}{o:Option V}{A:Around}{E:Value→Shared→Prop}
theorem ab6 {Q:Value→Shared→Prop} (hu:A.units+1<cLine) (I:Inv X pins σ H s) (g:gr H a y o) (ry:RelV y u) (h:∀ w' s',Inv X pins σ H s'→RelV (o.getD .non) w'→Q w' s') :
   wpAny (model X.prog X.w) A (call (.builtin "dict.get") [.ref a,u]) Q E s:=by
 rcases g with ⟨kvs,k,e,ey,l⟩ | ⟨kvs,k,b,e,ey,eb,l⟩
 · subst ey
   obtain⟨z,hd,vs,rel,dd⟩:=Ce I.hok e
   refine call_meetsIn PySem.F.slot_dict_get dd.typeIs PySem.F.entry_dict_get (PySem.F.args_dict_get_2 _ _) (meets_dict_get (dh X.prog X.w) a (Ff ry) hd) ⟨_,dd.mapOf,h _ _ (I.tok _) ?_⟩
   rw [l]
   exact (rel.val k).getD rfl
 · subst ey
   cases (show u=Value.ref b from ry)
   obtain⟨z,hd,xs,rel,dd⟩:=Cg I.hok e
   refine call_meetsIn PySem.F.slot_dict_get dd.typeIs PySem.F.entry_dict_get (PySem.F.args_dict_get_2 _ _) (meetsH_dict_get (tupleKind (dh X.prog X.w)) a b hd) ⟨tupleKind_room_in1 hu,k,xs,vz I.hok eb,dd,h _ _ (I.tok _) ?_⟩
   rw [l]
   exact (rel.val k).getD rfl
theorem ab7 {Q:Value→Shared→Prop} (hu:A.units+1<cLine) (I:Inv X pins σ H s) (g:gr H a y o) (ry:RelV y u) (rd:RelV d r) (h:∀ w' s',Inv X pins σ H s'→RelV (o.getD d) w'→Q w' s') :
   wpAny (model X.prog X.w) A (call (.builtin "dict.get") [.ref a,u,r]) Q E s:=by
 rcases g with ⟨kvs,k,e,ey,l⟩ | ⟨kvs,k,b,e,ey,eb,l⟩
 · subst ey
   obtain⟨z,hd,vs,rel,dd⟩:=Ce I.hok e
   refine call_meetsIn PySem.F.slot_dict_get dd.typeIs PySem.F.entry_dict_get (PySem.F.args_dict_get_3 _ _ _) (meets_dict_get_default (dh X.prog X.w) a (Ff ry) hd r) ⟨_,dd.mapOf,h _ _ (I.tok _) ?_⟩
   rw [l]
   exact (rel.val k).getD rd
 · subst ey
   cases (show u=Value.ref b from ry)
   obtain⟨z,hd,xs,rel,dd⟩:=Cg I.hok e
   refine call_meetsIn PySem.F.slot_dict_get dd.typeIs PySem.F.entry_dict_get (PySem.F.args_dict_get_3 _ _ _) (meetsH_dict_get_default (tupleKind (dh X.prog X.w)) a b hd r) ⟨tupleKind_room_in1 hu,k,xs,vz I.hok eb,dd,h _ _ (I.tok _) ?_⟩
   rw [l]
   exact (rel.val k).getD rd
end
def ab8 (td ty:TE):TE:=fun σ H Q=>td σ H fun x H1=>∃ a,x=.ref a∧IsD H1 a∧ty σ H1 fun y H2=>∃ o,gr H2 a y o∧Q (o.getD .non) H2
def ab9 (td ty tx:TE):TE:=fun σ H Q=>td σ H fun x H1=>∃ a,x=.ref a∧IsD H1 a∧ty σ H1 fun y H2=>tx σ H2 fun z H3=>∃ o,gr H3 a y o∧Q (o.getD z) H3
section
variable {X:Cx}{o e f:Expr}{apos cpos:Pos}{td ty tx:TE}
theorem M8 (hu:X.A.units+1<cLine) (ho:PE X o td) (he:PE X e ty) (m:M1 X o "get" apos e cpos):PE X (.Call (.Attribute o "get" apos) [e] [] cpos) (ab8 td ty):=by
 intro pins s σ H Q I h
 refine wpAny_Call_method m.base m.few m.line PySem.F.plainAttrs_dict PySem.F.slot_dict_get PySem.F.type_dict_get (d9 (ho pins s σ H _ I h) fun u s1 zq=>?_)
 obtain⟨x,H1,I1,rx,a,ex,d,q1⟩:=zq
 subst ex
 obtain rfl:u=Value.ref a:=rx
 obtain⟨t1,t2,_⟩:=V8 I1 d
 refine⟨t1,t2,?_⟩
 rw [m.trees]
 refine Calls.callWith_builtin rfl (Calls.evalArgs_plain (Calls.spliced_cons (d9 (he pins s1 σ H1 _ I1 q1) fun iv s2 ⟨y,H2,I2,ry,ov,g,q2⟩=>Calls.spliced_nil ?_)))
 exact ab6 hu I2 g ry fun w' s3 I3 Df=>⟨_,H2,I3,Df,q2⟩
theorem Fg (hu:X.A.units+1<cLine) (ho:PE X o td) (he:PE X e ty) (hf:PE X f tx) (m:M2 X o "get" apos e f cpos):PE X (.Call (.Attribute o "get" apos) [e,f] [] cpos) (ab9 td ty tx):=by
 intro pins s σ H Q I h
 refine wpAny_Call_method m.base m.few m.line PySem.F.plainAttrs_dict PySem.F.slot_dict_get PySem.F.type_dict_get (d9 (ho pins s σ H _ I h) fun u s1 zq=>?_)
 obtain⟨x,H1,I1,rx,a,ex,d,q1⟩:=zq
 subst ex
 obtain rfl:u=Value.ref a:=rx
 obtain⟨t1,t2,_⟩:=V8 I1 d
 refine⟨t1,t2,?_⟩
 rw [m.trees]
 refine Calls.callWith_builtin rfl (Calls.evalArgs_plain (Calls.spliced_cons (d9 (he pins s1 σ H1 _ I1 q1) fun iv s2 ⟨y,H2,I2,ry,q2⟩ =>
   Calls.spliced_cons (d9 (hf pins s2 σ H2 _ I2 q2) fun fv s3 ⟨z,H3,I3,rz,ov,g,q3⟩=>Calls.spliced_nil ?_))))
 exact ab7 hu I3 g ry rz fun w' s4 I4 Df=>⟨_,H3,I4,Df,q3⟩
end
section
variable {X:Cx}{pins:List (Addr × Obj)}{σ:St}{H:Hp}{s:Shared}{a:Addr}{kvs:List (Key × V)}{A:Around}{E:Value→Shared→Prop}
end
section
variable {X:Cx}{pins:List (Addr × Obj)}{σ:St}{H:Hp}{s:Shared}{a:Addr}{y:V}{u:Value}{A:Around}{E:Value→Shared→Prop}
end
end L2
namespace L2
open PySem PySem.Spec PyProof.Rows
section
variable {X:Cx}
end
section
variable {κ:Type} [DecidableEq κ]
end
end L2
namespace L2
open PySem PySem.Spec PyProof.Rows PySem.Calls
section
variable {prog:Program}{w:World}{A:Around}{R:Result→Shared→Prop}{s:Shared}
theorem M9 {elt target iter:Expr}{scope:Scope}{pos:Pos}{it acc:Value}{env:Env} (I:Nat→Shared→Prop)
   (turn:∀ n s,I n s→wpAny (model prog w) A (pyNext it) (fun r s₁=>match r with
     | none=>R (.ok .next) s₁
     | some v=>wpAny (model prog w) A (letOwnedTupleGo target it v) (fun _ s₂=>wpAny (model prog w) A (assign target env v) (fun _ s₃ =>
         wpAny (model prog w) A (eval elt env) (fun x s₄ =>
           wpAny (model prog w) A (call (.builtin "list.append") [acc,x]) (fun _ s₅=>∃ m,m<n∧I m s₅) (notedBy (model prog w) A env fun e s'=>R (.error e) s') s₄)
           (notedBy (model prog w) A env fun e s'=>R (.error e) s') s₃) (notedBy (model prog w) A env fun e s'=>R (.error e) s') s₂) (notedBy (model prog w) A env fun e s'=>R (.error e) s') s₁)
     (notedBy (model prog w) A env fun e s'=>R (.error e) s') s)
   (n:Nat) (h:I n s):codeAny (model prog w) A (.compLoop (.ListComp elt [⟨target,iter,[],0⟩] scope pos) 0 it acc env) R s:=by
 refine codeAny_loop rfl I (fun n s hI=>?_) n h
 show wpAny _ A ((compTurn (.ListComp elt [⟨target,iter,[],0⟩] scope pos) 0 it acc env).onRaise (fun x=>do noteFrame x env;theTreesLotGoes x)) _ _ s
 refine wpAny_noted ?_
 rw [compTurn_list1]
 refine wpAny_bind (wpAny_standAt (wpAny_bind (wpAny_mono (turn n s hI) (fun r s₁ h₁=>?_) fun _ _ h'=>h')))
 cases r with
 | none=>exact wpAny_pure h₁
 | some v =>
   refine wpAny_bind (wpAny_mono h₁ (fun _ s₂ h₂=>wpAny_bind (wpAny_mono h₂ (fun _ s₃ h₃=>?_) fun _ _ h'=>h')) fun _ _ h'=>h')
   exact wpAny_bind (wpAny_bind (wpAny_mono h₃ (fun x s₄ h₄=>wpAny_bind (wpAny_mono h₄ (fun _ s₅ h₅=>wpAny_pure (wpAny_pure ⟨rfl,h₅⟩)) fun _ _ h'=>h')) fun _ _ h'=>h'))
end
def iQ (env:Env):List (Str × NameKind)→List (Str × Addr)→List (Str × Addr)
 | [],cs=>cs
 | (n,k)::r,cs=>iQ env r (if k == .free then match env.cells.lookup n with | some c=>(n,c)::cs | none=>cs else cs)
theorem Nb {env:Env}:∀ {ns:List (Str × NameKind)}{cs:List (Str × Addr)}{y:Str}{c:Addr},(y,c)∈iQ env ns cs→(y,c)∈cs∨env.cells.lookup y=some c
 | [],_,_,_,h=>.inl h
 | (n,k)::r,cs,y,c,h=>by
   unfold iQ at h
   rcases Nb h with q | q
   · split at q
     · cases e:env.cells.lookup n with
       | none=>rw [e] at q;exact .inl q
       | some d =>
         rw [e] at q
         rcases List.mem_cons.mp q with z | z
         · cases z;exact .inr e
         · exact .inl z
     · exact .inl q
   · exact .inr q
theorem Nf {env:Env}:∀ {ns:List (Str × NameKind)}{cs:List (Str × Addr)}{y:Str},((∃ c,(y,c)∈cs)∨((y,NameKind.free)∈ns∧∃ c,env.cells.lookup y=some c))→∃ c,(y,c)∈iQ env ns cs
 | [],_,_,h=>by
   rcases h with h | ⟨h,_⟩
   · exact h
   · cases h
 | (n,k)::r,cs,y,h=>by
   unfold iQ
   apply Nf
   rcases h with ⟨c,h⟩ | ⟨h,c,e⟩
   · left
     split
     · cases e:env.cells.lookup n with
       | none=>exact⟨c,h⟩
       | some d=>exact⟨c,List.mem_cons_of_mem _ h⟩
     · exact⟨c,h⟩
   · rcases List.mem_cons.mp h with z | z
     · cases z
       left
       rw [e]
       exact⟨c,by simp⟩
     · exact .inr ⟨z,c,e⟩
theorem Fi {env:Env}:∀ {ns:List (Str × NameKind)}{cs:List (Str × Addr)},(∀ y,(y,NameKind.free)∈ns→∃ c,env.cells.lookup y=some c) →
   (forIn ns cs fun (x:Str × NameKind) (r:List (Str × Addr))=>(if x.2 == NameKind.free then (do let c ← cellOf env x.1;pure (ForInStep.yield ((x.1,c)::r))) else pure (ForInStep.yield r):Sem (ForInStep (List (Str × Addr)))))=(pure (iQ env ns cs):Sem (List (Str × Addr)))
 | [],_,_=>rfl
 | (n,k)::r,cs,h=>by
   have ih:=@Fi env r
   rw [List.forIn_cons]
   unfold iQ
   cases hk:k == NameKind.free with
   | false =>
     simp only [Bool.false_eq_true,if_false]
     exact ih fun y hy=>h y (List.mem_cons_of_mem _ hy)
   | true =>
     have ek:k=NameKind.free:=by simpa using hk
     subst ek
     obtain⟨c,e⟩:=h n (by simp)
     have ec:cellOf env n=pure c:=by unfold cellOf;rw [e]
     simp only [if_true]
     rw [ec,e]
     exact ih fun y hy=>h y (List.mem_cons_of_mem _ hy)
theorem Ql {scope:Scope}{env:Env} (h:∀ y,(y,NameKind.free)∈scope.names→∃ c,env.cells.lookup y=some c):closureFor scope env=pure (iQ env scope.names []):=by
 have q:=Fi (cs:=[]) h
 unfold closureFor
 exact congrArg (fun m=>m >>= fun r=>pure r) q
end L2
namespace L2
open PySem PySem.Spec PyProof.Rows PySem.Calls
theorem xU {env:Env}{y:Str}:∀ {names:List (Str × NameKind)},
   (names.map fun (n,k)=>if (k == NameKind.free && env.scope.kind == .function && env.kindOf n == some .cell) then (n,NameKind.cell) else (n,k)).lookup y
     = (names.lookup y).map fun k=>if (k == NameKind.free && env.scope.kind == .function && env.kindOf y == some .cell) then NameKind.cell else k
 | []=>rfl
 | (n,k)::r=>by
   have ih:=@xU env y r
   by_cases hx:y=n
   · subst hx
     simp only [List.map_cons]
     split <;> rename_i hc
     · rw [List.lookup_cons,List.lookup_cons];simp only [beq_self_eq_true,Option.map_some];rw [if_pos hc]
     · rw [List.lookup_cons,List.lookup_cons];simp only [beq_self_eq_true,Option.map_some];rw [if_neg hc]
   · have hb:(y == n)=false:=beq_eq_false_iff_ne.mpr hx
     simp only [List.map_cons]
     split <;> simp only [List.lookup_cons,hb] <;> exact ih
section
variable {X:Cx}{pins:List (Addr × Obj)}{σ:St}{H:Hp}{s:Shared}{a:Addr}{o:HO}
theorem Inv.track (I:Inv X pins σ H s) (f:mK X pins H a) (hs:X.s₀.heap.objs.size≤a) (new:cI X.prog X.w (upd H a o) s.heap a o):Inv X pins σ (upd H a o) s:=by
 obtain⟨f0,f1,f2,f3,f4,f5⟩:=f
 have old:∀ b ob,X.s₀.heap.get? b=some ob→b≠a:=fun b ob e z=>by subst z;exact absurd (Nat.lt_of_lt_of_le (Heap.lt_size e) hs) (Nat.lt_irrefl _)
 refine⟨I.ok,I.os,I.bare,⟨I.base.keep,I.base.slot,fun b ob e n hx=>?_,I.base.there,fun b xs e=>?_,fun b ob u e=>?_,fun b ps e=>?_⟩,I.loc,I.cell,?_,fun x c e=>?_,fun p hp=>?_,fun b u e=>?_,I.len⟩
 · rw [zI (old b ob e)];exact I.base.free b ob e n hx
 · have q:=I.base.tups b xs e;rw [zI (zJ q f0)];exact q
 · have q:=I.base.pD b ob u e;rw [zI (zJ q f0)];exact q
 · obtain⟨more,q⟩:=I.base.pF b ps e;exact⟨more,by rw [zI (zJ q f0)];exact q⟩
 · rw [zI (Ne.symm f1)];exact I.free
 · rw [zI (f4 x c e)];exact I.lA x c e
 · obtain⟨e,n,ne,nf,d⟩:=I.pin p hp
   exact⟨e,by rw [zI (f5 p hp)];exact n,ne,nf,d⟩
 · by_cases hb:b=a
   · subst hb;rw [zB] at e;cases e;exact new
   · rw [zI hb] at e
     exact (I.hok b u e).stay (fun c v _ q=>q) (fun c q=>by rw [zI (zJ q f0)];exact q) fun c xs q=>by rw [zI (zJ q f0)];exact q
end
def dM (X:Cx) (scope:Scope) (C:Addr) (x:Str) (M:List Str) (s₂:Shared) (H₂:Hp) (fp:List Addr):Cx :=
 { X with N:=x::M,s₀:=s₂,H₀:=H₂,env:=compEnvC scope (iQ X.env scope.names []) C X.env,outer:=X.stack,ex:=fp,fn:=fun _=>false,pn:=[],xe:=fun _ _=>False }
structure cZ (X:Cx) (scope:Scope) (x:Str) (M:List Str):Prop where
 kind:scope.kind=.function
 cell:∀ y∈scope.names,y.2≠.cell
 names:∀ y∈scope.names,y.2=.local→scope.names.lookup y.1=some .local
 loc:scope.names.lookup x=some .local
 nd:(x::M).Nodup
 free:∀ y,(y,NameKind.free)∈scope.names→X.env.scope.names.lookup y=some .cell∨X.env.scope.names.lookup y=some .free
 len:M.length=X.N.length
 sub:∀ (j:Nat) y,M[j]? = some y→scope.names.lookup y=some .local∨scope.names.lookup y=some .free→X.N[j]? = some y∧scope.names.lookup y=some .free
def Tc (names outer:List (Str × NameKind)) (N M:List Str) (x:Str):Bool :=
 names.all (fun y=>decide (y.2≠.cell)) && names.all (fun y=>decide (y.2=.local→names.lookup y.1=some .local)) && decide (names.lookup x=some .local) && decide (x::M).Nodup &&
 names.all (fun y=>decide (y.2=.free→(outer.lookup y.1=some .cell∨outer.lookup y.1=some .free))) && decide (M.length=N.length) &&
 (M.zip N).all (fun p=>decide (names.lookup p.1=some .local∨names.lookup p.1=some .free→p.1=p.2∧names.lookup p.1=some .free))
theorem xR {X:Cx}{scope:Scope}{x:Str}{M:List Str} (hk:scope.kind=.function) (h:Tc scope.names X.env.scope.names X.N M x=true):cZ X scope x M:=by
 unfold Tc at h
 simp only [Bool.and_eq_true,List.all_eq_true,decide_eq_true_eq] at h
 obtain⟨⟨⟨⟨⟨⟨h1,h2⟩,h3⟩,h4⟩,h5⟩,h6⟩,h7⟩:=h
 refine⟨hk,h1,h2,h3,h4,fun y hy=>h5 _ hy rfl,h6,fun j y e q=>?_⟩
 have hj:j<M.length:=(List.getElem?_eq_some_iff.mp e).1
 have hj2:j<X.N.length:=by omega
 have z:(M.zip X.N)[j]? = some (y,X.N[j]):=by rw [List.getElem?_zip_eq_some];exact⟨e,by simp [hj2]⟩
 have r:=h7 _ (List.mem_of_getElem? z) q
 exact⟨by rw [List.getElem?_eq_getElem hj2];exact congrArg some r.1.symm,r.2⟩
section
variable {X:Cx}{scope:Scope}{x:Str}{M:List Str}{pins:List (Addr × Obj)}{σ:St}{H₂:Hp}{s₂:Shared}
theorem cZ.uX {y:Str}{c:Addr} (h:(iQ X.env scope.names []).lookup y=some c):X.env.cells.lookup y=some c:=by
 rcases Nb (PySem.mem_of_lookup h) with q | q
 · cases q
 · exact q
theorem cZ.Qm (K:cZ X scope x M) (ok:X.Ok) {y:Str} (h:(y,NameKind.free)∈scope.names):∃ c,(iQ X.env scope.names []).lookup y=some c∧X.env.cells.lookup y=some c:=by
 have e1:∃ c,X.env.cells.lookup y=some c:=ok.has y (K.free y h)
 obtain⟨c,hc⟩:=Nf (env:=X.env) (ns:=scope.names) (cs:=[]) (y:=y) (.inr ⟨h,e1⟩)
 have q:∃ c,(iQ X.env scope.names []).lookup y=some c:=by
   cases e:(iQ X.env scope.names []).lookup y with
   | some c=>exact⟨c,rfl⟩
   | none =>
     rw [List.lookup_eq_none_iff] at e
     have:=e _ hc
     simp at this
 obtain⟨c',hc'⟩:=q
 exact⟨c',hc',cZ.uX hc'⟩
theorem cZ.closure (K:cZ X scope x M) (ok:X.Ok):closureFor scope X.env=pure (iQ X.env scope.names []) :=
 Ql fun y hy=>by obtain⟨c,_,q⟩:=K.Qm ok hy;exact⟨c,q⟩
theorem Fj (K:cZ X scope x M) (I:Inv X pins σ H₂ s₂) {fp:List Addr} (hf:∀ b∈fp,mK X pins H₂ b) (hfl:∀ b∈fp,b<s₂.heap.objs.size) {C:Addr} (hC:s₂.heap.objs.size≤C) {h₁:Heap}{t:Nat}{m:Str→Option Value} (hn:h₁.Ns C m)
   (hk:∀ b o,s₂.heap.get? b=some o→h₁.get? b=some o):Inv (dM X scope C x M s₂ H₂ fp) [] (none::σ) H₂ { s₂ with heap:=h₁,toks:=t }:=by
 have lt:∀ {b:Addr}{o:Obj},s₂.heap.get? b=some o→b≠C:=fun {b o} e z=>by subst z;exact absurd (Nat.lt_of_lt_of_le (Heap.lt_size e) hC) (Nat.lt_irrefl _)
 have cC:∀ y c,(iQ X.env scope.names []).lookup y=some c→c≠C:=fun y c e=>by
   obtain⟨v,o,ho,_⟩:=I.cell y c (cZ.uX e)
   exact lt ho
 have sub:∀ b∈frs X.stack,b=X.env.locals∨b∈X.fs:=fun b hb=>List.mem_cons.mp (I.zy b hb)
 have ok:(dM X scope C x M s₂ H₂ fp).Ok:=by
   refine⟨I.ok.mod,K.kind,I.ok.glob,I.ok.blt,hC,fun y z c h1 h2=>?_,fun y hy=>?_,fun y c z=>?_,I.ok.hd,I.ok.frames,.inl rfl,fun b hb=>⟨?_,fun y c e=>?_⟩,I.bs,Nat.le_trans I.ok.T6 I.sz,fun b o e hb=>?_,fun b hb hb2=>?_,I.stack,I.J8⟩
   · exact I.ok.inj y z c (cZ.uX h1) (cZ.uX h2)
   · have hy':(relabel scope X.env).names.lookup y=some .cell∨(relabel scope X.env).names.lookup y=some .free:=hy
     have q:(y,NameKind.free)∈scope.names:=by
       unfold relabel at hy'
       rw [xU] at hy'
       cases e:scope.names.lookup y with
       | none=>rw [e] at hy';simp at hy'
       | some k =>
         have hm:=PySem.mem_of_lookup e
         cases k with
         | free=>exact hm
         | cell=>exact absurd rfl (K.cell _ hm)
         | _=>rw [e] at hy';simp at hy'
     obtain⟨c,q,_⟩:=K.Qm I.ok q
     exact⟨c,q⟩
   · exact Bool.noConfusion (show false=true from z)
   · intro z
     have z':b=C:=z
     subst z'
     exact absurd (Nat.lt_of_lt_of_le (hfl b hb) hC) (Nat.lt_irrefl _)
   · exact (hf b hb).2.2.2.2.1 y c (cZ.uX e)
   · have q:=(hf b hb).2.2.2.1
     rcases q with q | q
     · exact I.ok.Vr b o e q
     · exact absurd (Nat.lt_of_lt_of_le (Heap.lt_size (I.ok.bs b o e).1) q) (Nat.lt_irrefl _)
   · rcases sub b hb2 with z | z
     · exact (hf b hb).2.1 z
     · exact (hf b hb).2.2.1 z
 refine⟨ok,rfl,I.bare,Un.kept hk,⟨m,hn,fun i y v e1 e2 e3=>?_⟩,fun y c e=>?_,?_,fun y c e=>?_,fun p hp=>absurd (show p∈([]:List (Addr × Obj)) from hp) (by simp),I.hok.kept hk,?_⟩
 · cases i with
   | zero =>
     have e2':some (none:Option V)=some (some v):=e2
     cases e2'
   | succ j =>
     have e1':M[j]? = some y:=e1
     have e2':σ[j]? = some (some v):=e2
     have e3':(relabel scope X.env).names.lookup y=some .local∨(relabel scope X.env).names.lookup y=some .cell∨(relabel scope X.env).names.lookup y=some .free:=e3
     have q:scope.names.lookup y=some .local∨scope.names.lookup y=some .free:=by
       unfold relabel at e3'
       rw [xU] at e3'
       cases e:scope.names.lookup y with
       | none=>rw [e] at e3';simp at e3'
       | some k =>
         have hm:=PySem.mem_of_lookup e
         cases k with
         | free=>exact .inr rfl
         | «local»=>exact .inl rfl
         | cell=>exact absurd rfl (K.cell _ hm)
         | _=>rw [e] at e3';simp at e3'
     obtain⟨nj,fr⟩:=K.sub j y e1' q
     have hm:=PySem.mem_of_lookup fr
     have kd:=K.free y hm
     have vs:Vis X.env.scope y:=.inr kd
     obtain⟨mo,_,lo⟩:=I.loc
     obtain⟨u,r,l⟩:=lo j y v nj e2' vs
     refine⟨u,r,.inr ⟨?_,?_⟩⟩
     · show (relabel scope X.env).names.lookup y=some .cell∨(relabel scope X.env).names.lookup y=some .free
       unfold relabel
       rw [xU,fr]
       simp only [Option.map_some]
       split
       · exact .inl rfl
       · exact .inr rfl
     · obtain⟨c,q1,q2⟩:=K.Qm I.ok hm
       rcases l with ⟨k,_⟩ | ⟨_,c',q3,z⟩
       · have k':X.env.scope.names.lookup y=some .local:=k
         rcases kd with kd | kd <;> · rw [k'] at kd;cases kd
       · rw [q2] at q3
         cases q3
         obtain⟨oc,ho,hd⟩:=z
         exact⟨c,q1,oc,hk _ _ ho,hd⟩
 · obtain⟨v,oc,ho,hd⟩:=I.cell y c (cZ.uX e)
   exact⟨v,oc,hk _ _ ho,hd⟩
 · exact I.hok.fresh hC
 · exact I.lA y c (cZ.uX e)
 · show (none::σ).length=(x::M).length
   rw [List.length_cons,List.length_cons,K.len,I.len]
end
end L2
namespace L2
open PySem PySem.Spec PyProof.Rows PySem.Calls
def aa4 (wi:TI) (te:TE):TE:=fun σ H Q=>wi σ H fun J H1=>∃ (n:Nat) (W:Nat→List V→Hp→Prop),n≤sizeLine∧W 0 [] H1∧∀ i ys H,i≤n→ys.length=i→W i ys H →
 (J.stop i H∧∀ p,H p=none→Q (.ref p) (upd H p (.lst ys)))∨(J.go i H∧i<n∧∀ x H',J.PJ i H x H'→te (some x::σ) H' fun v PL=>W (i+1) (ys++[v]) PL)
section
variable {X:Cx}{scope:Scope}{x:Str}{M:List Str}{pins:List (Addr × Obj)}{σ:St}{H₂:Hp}{s₂:Shared}{elt iter:Expr}{px pos:Pos}{te:TE}{wi:TI}
theorem Fl (K:cZ X scope x M) (hc:X.calm=true) (I:Inv X pins σ H₂ s₂) (he:∀ (C:Addr) (s₂:Shared) (H₂:Hp) (fp:List Addr),PE (dM X scope C x M s₂ H₂ fp) elt te)
   {it:Addr}{fp:List Addr}{tn:Nat→Heap→Prop}{J:It} (T:Turn X.prog X.w X.K (.Name x px) J fp it tn) (st:tn 0 s₂.heap) (hf:∀ b∈fp,mK X pins H₂ b) {n:Nat} (hsz:n≤sizeLine) {W:Nat→List V→Hp→Prop}{F:List V→Hp→Prop}
   (w0:W 0 [] H₂) (turn:∀ i ys H,i≤n→ys.length=i→W i ys H→(J.stop i H∧F ys H)∨(J.go i H∧i<n∧∀ x H',J.PJ i H x H'→te (some x::σ) H' fun v PL=>W (i+1) (ys++[v]) PL))
   {E:Value→Shared→Prop}{RR:Value→Addr→Result→Shared→Prop}
   (hRR:∀ (D C:Addr) (s':Shared) (H':Hp) (ys:List V) (m:Str→Option Value),Inv X pins σ (upd H' D (.lst ys)) s'→H' D=none→mK X pins (upd H' D (.lst ys)) C→s'.heap.Ns C m→F ys H'→RR (.ref D) C (.ok .next) s') :
   wpAny (model X.prog X.w) X.A (newList []) (fun acc s₃=>wpAny (model X.prog X.w) X.A (newFunctionEnv scope X.env.globals (iQ X.env scope.names []) [] X.env.qual none .none (some X.env)) (fun cenv s₄ =>
     codeAny (model X.prog X.w) X.A (.compStart (.ListComp elt [⟨.Name x px,iter,[],0⟩] scope pos) 0 (.ref it) acc { cenv with scope:=relabel scope X.env }) (RR acc cenv.locals) s₄) E s₃) E s₂:=by
 refine wpAny_newObj_type (wpAny_newFunctionEnv K.cell (by intro y hy;simp at hy) (fun h₁ hns₁ hsb₁=>?_) K.kind)
 dsimp only at hns₁ hsb₁ ⊢
 generalize hH2:s₂.heap.push { cls:=.type "list",dict:=none,data:=.seq ([]:List Value).toArray } = H2 at hns₁ hsb₁ ⊢
 have hC:H2.objs.size=s₂.heap.objs.size+1:=by rw [← hH2,Heap.size_push]
 have hDC:s₂.heap.objs.size≠H2.objs.size:=by rw [hC];exact Nat.ne_of_lt (Nat.lt_succ_self _)
 have below:∀ b,b<s₂.heap.objs.size→b≠H2.objs.size∧b≠s₂.heap.objs.size:=fun b hb=>⟨by rw [hC];exact Nat.ne_of_lt (Nat.lt_succ_of_lt hb),Nat.ne_of_lt hb⟩
 have hfl:∀ b∈fp,b<s₂.heap.objs.size:=fun b hb=>by obtain⟨o,e,_⟩:=T.obj _ _ st b hb;exact Heap.lt_size e
 have old:∀ b o,s₂.heap.get? b=some o→h₁.get? b=some o:=fun b o e=>hsb₁.extBut b o (below b (Heap.lt_size e)).1 (Heap.get?_push_of_some _ (hH2 ▸ Heap.get?_push_of_some _ e))
 have hacc:h₁.get? s₂.heap.objs.size=some { cls:=.type "list",data:=.seq ([]:List Value).toArray 0 }:=hsb₁.extBut _ _ hDC (Heap.get?_push_of_some _ (hH2 ▸ Heap.get?_push_size _ rfl))
 generalize hCC:H2.objs.size=C at *
 generalize uY:s₂.heap.objs.size=D at *
 have hCle:s₂.heap.objs.size≤C:=by rw [uY,hC];exact Nat.le_succ _
 have st₁:tn 0 h₁:=T.keep _ _ _ st fun b _ o e=>old b o e
 have I₁:=Fj (t:=s₂.toks+([]:List (Str × Value)).length) K I hf (fun b hb=>by rw [uY];exact hfl b hb) hCle hns₁ old
 generalize hX':dM X scope C x M s₂ H₂ fp=X' at I₁
 have eX:X'.prog=X.prog∧X'.w=X.w∧X'.K=X.K∧X'.calm=true∧X'.A=X.A∧X'.ex=fp∧X'.env=compEnvC scope (iQ X.env scope.names []) C X.env∧X'.s₀=s₂∧X'.pn=[]:=by
   subst hX';exact⟨rfl,rfl,rfl,hc,rfl,rfl,rfl,rfl,rfl⟩
 obtain⟨eP,ew,eK,ec,eA,eex,Di,es0,V9⟩:=eX
 have eL:X'.env.locals=C:=by rw [Di];rfl
 have cells':∀ y c,X'.env.cells.lookup y=some c→X.env.cells.lookup y=some c:=fun y c e=>by rw [Di] at e;exact cZ.uX e
 have efs:X'.fs=frs X.stack:=by subst hX';rfl
 have wX:∀ b∈X'.fs,b=X.env.locals∨b∈X.fs:=fun b hb=>List.mem_cons.mp (I.zy b (by rw [← efs];exact hb))
 have Fo:∀ {pn:List (Addr × Obj)}{H':Hp},(∀ p∈pn,p.1=D)→(∀ b∈fp,H' b=none)→∀ b∈fp,mK X' pn H' b:=fun {pn H'} hp hn b hb=>by
   refine⟨hn b hb,?_,fun z=>?_,.inl (by rw [eex];exact hb),fun y c e=>(hf b hb).2.2.2.2.1 y c (cells' y c e),fun p hq=>?_⟩
   · rw [eL];exact (below b (hfl b hb)).1
   · rcases wX b z with q | q
     · exact (hf b hb).2.1 q
     · exact (hf b hb).2.2.1 q
   · rw [V9,List.nil_append] at hq
     rw [hp p hq];exact Ne.symm (below b (hfl b hb)).2
 have Dfp:D∉fp:=fun z=>Nat.lt_irrefl _ (hfl D z)
 have Ng:X.env.locals<D:=by have:=I.lt;rw [uY] at this;exact this
 have Wa:∀ b∈X.fs,b<D:=fun b hb=>Nat.lt_of_not_le fun z=>I.Zk (a:=b) (by rw [uY];exact z) hb
 have Nh:∀ {b:Addr}{pn:List (Addr × Obj)}{H':Hp},D≤b→b≠C→H' b=none→(∀ p∈pn,p.1≠b)→mK X' pn H' b:=fun {b pn H'} hb hbC hn hp=>by
   refine⟨hn,by rw [eL];exact hbC,fun z=>?_,.inr (by rw [es0,uY];exact hb),fun y c e=>?_,fun p hq=>?_⟩
   · rcases wX b z with q | q
     · rw [q] at hb;exact absurd (Nat.lt_of_lt_of_le Ng hb) (Nat.lt_irrefl _)
     · exact absurd (Nat.lt_of_lt_of_le (Wa b q) hb) (Nat.lt_irrefl _)
   · obtain⟨v,o,ho,_⟩:=I.cell y c (cells' y c e)
     have:=Heap.lt_size ho
     rw [uY] at this
     exact Nat.ne_of_lt (Nat.lt_of_lt_of_le this hb)
   · rw [V9,List.nil_append] at hq
     exact hp p hq
 have outer:∀ {σ':St}{H':Hp}{s':Shared}{pn:List (Addr × Obj)},Inv X' pn σ' H' s'→Inv X pins σ H' s':=fun {σ' H' s' pn} J'=>by
   subst hX'
   refine I.call' (ch:=fp) J'.os J'.base J'.hok J'.bare fun b hb=>?_
   obtain⟨f0,f1,f2,f3,f4,f5⟩:=hf b hb
   exact⟨f3,f1,f4,f5⟩
 have Ci:∀ {b:Addr}{H':Hp},D≤b→H' b=none→mK X pins H' b:=fun {b H'} hb hn=>by
   have q:=I.MK (H':=H') (b:=b) (by rw [uY];exact hb) hn
   exact q
 have loop:∀ s₃:Shared,s₃={ s₂ with heap:=h₁,toks:=s₂.toks+([]:List (Str × Value)).length } →
     codeAny (model X.prog X.w) X.A (.compLoop (.ListComp elt [⟨.Name x px,iter,[],0⟩] scope pos) 0 (.ref it) (.ref D) (compEnvC scope (iQ X.env scope.names []) C X.env)) (RR (.ref D) C) s₃:=by
   rintro s₃ rfl
   refine M9 (fun k s'=>∃ (i:Nat) (ys:List V) (its:List Value) (σ0:Option V) (H':Hp),i≤n∧k=n+1 - i∧ys.length=i∧Inv X' [] (σ0::σ) H' s'∧tn i s'.heap∧(∀ b∈fp,H' b=none)∧H' D=none∧Vals ys its ∧
     (∃ c,s'.heap.get? D=some { cls:=.type "list",data:=.seq its.toArray c })∧W i ys H') ?_ (n+1) ⟨0,[],[],none,H₂,Nat.zero_le _,rfl,rfl,I₁,st₁,fun b hb=>(hf b hb).1,by rw [← uY];exact I.hok.fresh (Nat.le_refl _),.nil,⟨0,hacc⟩,w0⟩
   rintro k s' ⟨i,ys,its,σ0,H',hi,rfl,hyl,I',st',fr',hD',rv,⟨c,hobj⟩,w'⟩
   have hx0:X'.N[0]? = some x:=by subst hX';rfl
   have hxl:X'.env.scope.names.lookup x=some .local:=by rw [Di];exact lookup_relabel_local K.loc
   have hNd:X'.N.Nodup:=by subst hX';exact K.nd
   rcases turn i ys H' hi hyl w' with ⟨stop,fin⟩ | ⟨go,hlt,step⟩
   · have Fp:Inv X' [(D,{ cls:=.type "list",data:=.seq its.toArray c })] (σ0::σ) H' s':=I'.gH fun p hp=>by
       obtain rfl:p=(D,{ cls:=.type "list",data:=.seq its.toArray c }):=by simpa using hp
       refine⟨hobj,hD',?_,?_,fun v z=>nomatch z⟩
       · rw [eL];exact hDC
       · intro z
         rcases wX D z with q | q
         · rw [q] at Ng;exact Nat.lt_irrefl _ Ng
         · exact Nat.lt_irrefl _ (Wa D q)
     have q:=T.done X' eP ew eK ec i _ s' (σ0::σ) H' (notedBy (model X.prog X.w) X.A (compEnvC scope (iQ X.env scope.names []) C X.env) fun e s'=>RR (.ref D) C (.error e) s') Fp (Fo (fun p hp=>by obtain rfl:p=(D,{ cls:=.type "list",data:=.seq its.toArray c }):=(by simpa using hp);rfl) fr') st' stop
     rw [eA] at q
     refine wpAny_mono q (fun r s4 ⟨hr,I4⟩=>?_) fun _ _ z=>z
     subst hr
     obtain⟨e4,n4,_⟩:=I4.pin (D,{ cls:=.type "list",data:=.seq its.toArray c }) (List.mem_append_right _ (by simp))
     have O4:=outer I4
     obtain⟨m4,ns4,_⟩:=I4.loc
     rw [eL] at ns4
     refine hRR D C s4 H' ys m4 (O4.track (Ci (Nat.le_refl _) n4) (Nat.le_trans I.sz (by rw [uY];exact Nat.le_refl _)) ⟨by rw [hyl];exact Nat.le_trans hi hsz,its,c,rv,e4⟩) n4 (Ci (by rw [hC];exact Nat.le_succ _) ?_) ns4 fin
     rw [zI (Ne.symm hDC)]
     have:=I4.free
     rw [eL] at this
     exact this
   · have Fp:Inv X' [(D,{ cls:=.type "list",data:=.seq its.toArray c })] (σ0::σ) H' s':=I'.gH fun p hp=>by
       obtain rfl:p=(D,{ cls:=.type "list",data:=.seq its.toArray c }):=by simpa using hp
       refine⟨hobj,hD',?_,?_,fun v z=>nomatch z⟩
       · rw [eL];exact hDC
       · intro z
         rcases wX D z with q | q
         · rw [q] at Ng;exact Nat.lt_irrefl _ Ng
         · exact Nat.lt_irrefl _ (Wa D q)
     have pd:∀ p∈[(D,({ cls:=.type "list",data:=.seq its.toArray c }:Obj))],p.1=D:=fun p hp=>by obtain rfl:p=(D,{ cls:=.type "list",data:=.seq its.toArray c }):=(by simpa using hp);rfl
     have q:=T.item X' eP ew eK ec i _ s' (σ0::σ) H' (notedBy (model X.prog X.w) X.A (compEnvC scope (iQ X.env scope.names []) C X.env) fun e s'=>RR (.ref D) C (.error e) s') Fp (Fo pd fr') st' go
     rw [eA] at q
     refine wpAny_mono q (fun r s4 ⟨u,hr,h4⟩=>?_) fun _ _ z=>z
     subst hr
     refine wpAny_mono h4 (fun _ s5 ⟨xv,H5,I5,r5,y5,Kd,fr5⟩=>?_) fun _ _ z=>z
     have I5':=I5.pinned (Fo pd fr5) (T.obj _ _ Kd)
     refine wpAny_assign_Name ?_
     rw [← Di]
     refine wM I5' hNd hx0 (.inl hxl) r5 (fun s6 I6=>?_) (.inr hxl)
     have te6:=step xv H5 y5
     have q6:=(he C s₂ H₂ fp) (([(D,({ cls:=.type "list",data:=.seq its.toArray c }:Obj))])++qw fp s5.heap) s6 (some xv::σ) H5 (fun v PL=>W (i+1) (ys++[v]) PL) (by rw [hX'];exact I6) te6
     rw [hX',eP,ew,eA] at q6
     refine wpAny_mono q6 (fun u7 s7 ⟨v7,H7,I7,r7,w7⟩=>?_) (fun _ _ z=>by subst hX';exact (show False from z).elim)
     obtain⟨e7,n7,_⟩:=I7.pin (D,{ cls:=.type "list",data:=.seq its.toArray c }) (List.mem_append_right _ (List.mem_append_left _ (by simp)))
     refine append_at (hsz:=by rw [List.size_toArray,← rv.length,hyl];exact Nat.le_trans hi hsz) e7 fun h8 sb8 g8=>?_
     have I8:Inv X' [] (some xv::σ) H7 { s7 with heap:=h8,toks:=s7.toks }:=(I7.gH (Ew:=[]) fun p hp=>absurd hp (by simp)).turned (t':=s7.toks) (it:=D) (fun b o hb e=>(sb8.2 b hb).trans e) n7 (by rw [eL];exact hDC) (.inr (by rw [es0,uY];exact Nat.le_refl _))
       (Nh (H':=H7) (pn:=[]) (Nat.le_refl _) hDC n7 (fun p hp=>absurd hp (by simp))).2.2.2.2.1 (fun p hp=>by rw [V9] at hp;exact absurd hp (by simp))
     refine⟨n+1 - (i+1),by omega,i+1,ys++[v7],its++[u7],some xv,H7,hlt,rfl,by rw [List.length_append,List.length_singleton,hyl],I8,?_,fun b hb=>?_,n7,rv.append (.cons r7 .nil),⟨c+1,?_⟩,w7⟩
     · refine T.keep _ _ _ Kd fun b hb o e=>?_
       have e':=(I7.pin (b,o) (List.mem_append_right _ (List.mem_append_right _ (yR hb e)))).1
       exact (sb8.2 b (fun z=>Dfp (z ▸ hb))).trans e'
     · obtain⟨o,e,d⟩:=T.obj _ _ Kd b hb
       exact (I7.pin (b,o) (List.mem_append_right _ (List.mem_append_right _ (yR hb e)))).2.1
     · rw [g8,List.push_toArray]
 exact codeAny_compStart_list (loop _ rfl) (T.self X.A 0 _ _ _ st₁ (loop _ rfl))
theorem ZJ (K:cZ X scope x M) (hc:X.calm=true) (hi:PI X (.Name x px) iter wi) (he:∀ (C:Addr) (s₂:Shared) (H₂:Hp) (fp:List Addr),PE (dM X scope C x M s₂ H₂ fp) elt te)
   (hs:∀ x,foldedSetIterable iter X.env x=pure x:=by intro _;rfl):PE X (.ListComp elt [⟨.Name x px,iter,[],0⟩] scope pos) (aa4 wi te):=by
 intro pins s σ H Q I h
 rw [eval_ListComp]
 refine wpAny_comprehension_free (use:=none) rfl hs (K.closure I.ok) K.kind K.names (d9 (hi pins s σ H _ I h) fun v s1 h1=>d9 h1 fun itv s2 h2=>?_)
 obtain⟨it,fp,tn,J,H2,e,I2,T,st2,f2,n,W,hsz,w0,turn⟩:=h2
 subst e
 refine Fl (RR:=fun acc C=>compPost (model X.prog X.w) X.A X.xe none (EP X pins σ Q) acc C) K hc I2 he T st2 f2 hsz (F:=fun ys H=>∀ p,H p=none→Q (.ref p) (upd H p (.lst ys))) w0 turn ?_
 intro D C s' H' ys m I' n' fC ns fin
 refine⟨m,ns,fun h' sb=>?_⟩
 obtain⟨f0,f1,f2,f3,f4,f5⟩:=fC
 exact⟨.ref D,_,I'.turned (t':=s'.toks) (it:=C) (fun b o hb e=>(sb.2 b hb).trans e) f0 f1 f3 f4 f5,rfl,fin D n'⟩
theorem ZK {i:Nat}{y:Str}{spos py:Pos} (hN:X.N.Nodup) (hy:X.N[i]? = some y) (hl:Loc X.env.scope y) (K:cZ X scope x M) (hc:X.calm=true) (hi:PI X (.Name x px) iter wi) (he:∀ (C:Addr) (s₂:Shared) (H₂:Hp) (fp:List Addr),PE (dM X scope C x M s₂ H₂ fp) elt te)
   (hsw:swapsWith (.ListComp elt [⟨.Name x px,iter,[],0⟩] scope pos) (some (.Name y py)) spos.line X.env=pure true:=by rfl)
   (hs:∀ x,foldedSetIterable iter X.env x=pure x:=by intro _;rfl) (hf:X.fn y=true∨X.env.scope.names.lookup y=some .local:=by first | exact .inl rfl | exact .inr rfl | assumption) :
   PS X (.Assign [.Name y py] (.ListComp elt [⟨.Name x px,iter,[],0⟩] scope pos) spos) (T9 (aa4 wi te) (bU i)):=by
 intro pins s σ H Dn I h
 rw [exec_Assign_Name_used _ _ _ _ hsw]
 refine wpAny_bind (wpAny_standAt (wpAny_bind ?_))
 show wpAny _ X.A (do let _ ← comprehension (.ListComp elt [⟨.Name x px,iter,[],0⟩] scope pos) scope X.env _ (newList []) false (eval iter X.env) (some (assign (.Name y py) X.env))) _ _ s
 refine wpAny_bind (d9 (wpAny_comprehension_free (use:=some (assign (.Name y py) X.env)) (Q:=fun _ s'=>SP X pins Dn .next s') rfl hs (K.closure I.ok) K.kind K.names (d9 (hi pins s σ H _ I h) fun v s1 h1=>d9 h1 fun itv s2 h2=>?_)) fun _ s' hq=>wpAny_pure (wpAny_pure hq))
 obtain⟨it,fp,tn,J,H2,e,I2,T,st2,f2,n,W,hsz,w0,turn⟩:=h2
 subst e
 refine Fl (RR:=fun acc C=>compPost (model X.prog X.w) X.A X.xe (some (assign (.Name y py) X.env)) (fun _ s'=>SP X pins Dn .next s') acc C) K hc I2 he T st2 f2 hsz (F:=fun ys H=>∀ p,H p=none→Dn.nx (σ.set i (some (.ref p))) (upd H p (.lst ys))) w0 turn ?_
 intro D C s' H' ys m I' n' fC ns fin
 refine wpAny_assign_Name (zz (v:=.ref D) I' hN hy hl rfl (fun s'' I'' ch=>?_) hf)
 obtain⟨f0,f1,f2,f3,f4,f5⟩:=fC
 obtain⟨a,sb1,ha⟩:=ch
 have hCa:C≠a:=by
   rcases ha with z | z
   · rw [z];exact f1
   · exact Ne.symm (f4 y a z)
 refine⟨m,ns.sameBut sb1 hCa,fun h' sb=>?_⟩
 exact⟨_,_,I''.turned (t':=s''.toks) (it:=C) (fun b o hb e=>(sb.2 b hb).trans e) f0 f1 f3 f4 f5,fin D n'⟩
end
end L2
namespace L2
open PySem PySem.Spec PyProof.Rows PySem.Calls
def S (l:List Nat):Str:=⟨l.toArray⟩
abbrev cd (x:Str):List Nat:=x.cps.toList
theorem aca (l:List Nat):cd (S l)=l:=rfl
theorem af9 (x:Str):S (cd x)=x:=by cases x;rfl
theorem aa8 (l:List Nat):(S l).length=l.length:=by show l.toArray.size=_;simp
theorem m7 (x:Str):x.length=(cd x).length:=by show x.cps.size=_;simp
theorem Aa (x y:Str):cd (x++y)=cd x++cd y:=by
 show (x.cps++y.cps).toList=_
 simp
section
variable {X:Cx}{tg:Expr}
end
theorem Uo {K:PySem.W.Frag}{a:Addr}{xs:List V}{te:TE}{σ:St}{H:Hp}{Q:VK} (hz:xs.length≤sizeLine) (W:Nat→List V→Hp→Prop) (h0:W 0 [] H) (hq:∀ i ys H,W i ys H→bR K H a xs)
   (hs:∀ i x ys H,xs[i]? = some x→ys.length=i→W i ys H→te (some x::σ) H fun v H'=>W (i+1) (ys++[v]) H')
   (hd:∀ ys H,ys.length=xs.length→W xs.length ys H→∀ p,H p=none→Q (.ref p) (upd H p (.lst ys))) :
   ∃ (m:Nat) (W:Nat→List V→Hp→Prop),m≤sizeLine∧W 0 [] H∧∀ i ys H,i≤m→ys.length=i→W i ys H →
     ((Vj K a).stop i H∧∀ p,H p=none→Q (.ref p) (upd H p (.lst ys)))∨((Vj K a).go i H∧i<m∧∀ v H',(Vj K a).PJ i H v H'→te (some v::σ) H' fun v PL=>W (i+1) (ys++[v]) PL):=by
 refine⟨xs.length,W,hz,h0,fun i ys H hi hl hw=>?_⟩
 have q:=hq i ys H hw
 by_cases hlt:i<xs.length
 · refine .inr ⟨⟨xs,xs[i],q,by simp [hlt]⟩,hlt,fun v H' y=>?_⟩
   obtain⟨e,y⟩:=y
   subst e
   exact hs i v ys _ (y xs q) hl hw
 · have e:i=xs.length:=by omega
   subst e
   exact .inl ⟨⟨xs,q,Nat.le_refl _⟩,hd ys H hl hw⟩
section
variable {X:Cx}
theorem Ni (hc:X.calm=true):cg X (.builtin "all") (fun xs H Q=>∃ (p:Addr) (bs:List Bool),xs=[.ref p]∧bR X.K H p (bs.map V.bl)∧Q (.bl (bs.all id)) H):=by
 intro pins s σ H xs us Q I r h
 obtain⟨p,bs,rfl,hq,q⟩:=h
 obtain⟨u,rfl,ru⟩:=vals1 r
 cases ru
 obtain⟨its,rv,pl,hz⟩:=I.list hq
 have hlt:p<s.heap.objs.size:=by obtain⟨o,n,e,_⟩:=pl;exact Heap.lt_size e
 refine call_all_walk (wpAny_pyIter_list pl.isList ?_)
 refine⟨_,_,_,_,_,_,fun i=>bs.getD i false,rfl,Walks.list (show X.A.in1.handled=none from I.ok.hd hc) s.heap.objs.size p (Nat.ne_of_lt hlt) its.toArray,⟨⟨_,Heap.get?_push_size _ rfl,rfl,rfl⟩,pl.isList.push _⟩,fun i v s1 Q1 E1 hP hQ=>?_,fun h' tk k=>?_⟩
 · have hP':its[i]? = some v:=by simpa using hP
   obtain⟨hi,_⟩:=List.getElem?_eq_some_iff.mp hP'
   have hl:=rv.length
   rw [List.length_map] at hl
   have hb:(bs.map V.bl)[i]? = some (V.bl (bs.getD i false)):=by
     rw [List.getElem?_map,List.getElem?_eq_getElem (by omega)]
     simp [List.getD,List.getElem?_eq_getElem (show i<bs.length by omega)]
   obtain⟨u,hu,ru⟩:=rv.get hb
   rw [hP'] at hu
   cases hu
   cases (show v=Value.bool _ from ru)
   exact wpAny_truthy_bool hQ
 · have e:(List.range its.toArray.size).all (fun i=>bs.getD i false)=bs.all id:=by
     have hl:=rv.length
     rw [List.length_map] at hl
     rw [List.size_toArray,← hl]
     have z:bs=(List.range bs.length).map fun i=>bs.getD i false:=by
       apply List.ext_getElem?
       intro i
       rw [List.getElem?_map]
       by_cases hi:i<bs.length
       · simp [List.getElem?_eq_getElem,hi,List.getD]
       · rw [List.getElem?_eq_none (Nat.not_lt.mp hi),List.getElem?_eq_none (by rw [List.length_range];exact Nat.not_lt.mp hi)];rfl
     conv=>rhs;rw [z]
     rw [List.all_map];rfl
   rw [e]
   refine⟨.bl (bs.all id),H,?_,rfl,q⟩
   have I0:Inv X pins σ H { s with heap:=s.heap.push { cls:=.type "list_iterator",data:=.fields #[.ref p,.int 0 0] } }:=I.kept (t':=s.toks) fun b o e=>Heap.get?_push_of_some _ e
   have fo:=I.MK (H':=H) (b:=s.heap.objs.size) (Nat.le_refl _) I.fresh
   obtain⟨f0,f1,f2,f3,f4,f5⟩:=fo
   exact I0.turned (t':=tk) (it:=s.heap.objs.size) (fun b o hb e=>k b o (by simpa using hb) e) f0 f1 f3 f4 f5
theorem Ks:iw X (binaryOp .Mult) (rI (fun i j=>Builtin.Int.intBits i≤60000000∧Builtin.Int.intBits j≤60000000) fun i j=>.int (i*j)):=opI fun i j _ _ _ _ _ hc q=>mul_int q (IntMulOk.of_le hc.1 hc.2 (by decide))
def aga (xs:List Nat) (lo hi:Option Int):List Nat:=(xs.drop (HT.gq xs.length 0 lo)).take (HT.gq xs.length xs.length hi - HT.gq xs.length 0 lo)
end
end L2
namespace Att
open PySem PySem.W PySem.Calls PyProof.Rows
theorem Nj {ns:List Int} (h:WData.layableAll [WData.list (ns.map WData.int)]=true):∀ n∈ns,Builtin.Int.intBits n≤1048576:=by
 have h1:(WData.list (ns.map WData.int)).layable=true:=by simpa [WData.layableAll] using h
 intro n hn
 have h2:=layableW_item h1 (.int n) (List.mem_map.mpr ⟨n,hn,rfl⟩)
 have h3:=(layableW_iff.mp h2).2.2
 simpa [WData.weight,Builtin.Int.intBits] using h3
theorem Ku {l:OpenLaw}{n:Nat}{q:Program}{loose:List Str}{XP:(Str→Option Value)→Heap→Prop}{YP:World→Heap→Prop}{d:DefRec}
   (hn:l.most=some n) (hdf:d.params.defaults=[])
   (call:∀ (w:World) (s₀ s₁:Shared) (mg mb:Str→Option Value) (fa:Addr) (o:Obj) (pm cd doc:Value) (a:Addr) (vs:List Value) (ns:List Int),
     Ground q loose [] XP w s₀ mg mb s₁.heap→YP w s₁.heap →
     s₁.heap.get? fa=some o→o.data=.func (docDef d.name d.params d.body d.scope pm cd doc)→s₁.heap.CodeRec cd d.name→mg d.name=some (.ref fa) →
     s₁.heap.get? a=some { cls:=.type "list",data:=.seq vs.toArray }→IntsAre vs ns→ns.length≤n→(∀ n∈ns,Builtin.Int.intBits n≤1048576)→s₁.gens=#[] →
     codeAny (model l.prog w) callerA (.call (.ref fa) ⟨[.ref a],[]⟩) (fun r s'=>r=.ok (.ret (.bool true))∧OldK s₁.heap s'.heap∧s'.os=s₁.os∧AllBare s'.gens) s₁) :
   WalkO q loose XP YP l.row.toRowW d [] (fun f vs=>PySem.call f vs):=by
 intro w s₀ s₁ mg mb G Y fa o pm cd doc dV kV ho hd hcd hD hmg hg args vals as hpre hlay hrd hwl hlo
 obtain rfl:dV=.none:=Dflts.none hD hdf
 obtain rfl:kV=.none:=Dflts.noKw hD
 obtain⟨a,vs,ns,rfl,rfl,hobj,hints,hlen⟩:=Uj hn hpre hwl
 refine enter_call (codeAny_mono (call w s₀ s₁ mg mb fa o pm cd doc a vs ns G Y ho (fd_plain hd) hcd hmg hobj hints hlen (Nj hlay) hg) fun r s' hq=>?_)
 obtain⟨rfl,h2,h3,h4⟩:=hq
 exact⟨.inl ⟨.bool true,.bool true,[],rfl,fun _=>rfl,.bool true,Uk l _,fun _=>⟨List.Pairwise.nil,fun _ hm=>(nomatch hm)⟩⟩,h2,h3,h4⟩
end Att
namespace L2
open PySem PySem.Spec PyProof.Rows
def Cj (mg:Str→Option Value) (x:Str) (v:V):Prop:=∃ u,mg x=some u∧RelV v u
theorem wY {X:Cx}{x:Str}{v:V}{pos:Pos} (hg:Gl X x) (h:Cj X.mg x v) (hd:(x == ("__debug__":Str))=false:=by decide):PE X (.Name x pos) (tC v):=by
 obtain⟨u,hm,r⟩:=h
 exact Zm hg hm r hd
theorem dH.mod {K:PySem.W.Frag}{a:Addr}{oc:Value}{od:Option Addr}{its:Array Value}{n:Nat}{sl:Array (Option Value)}{xs:List V} (h:K.lookup a=some ⟨oc,od,.seq its n,sl⟩) (hc:oc=.type "tuple") (hz:its.size≤sizeLine) (hv:Vals xs its.toList) (H:Hp):dH K H a xs :=
 .inr ⟨_,its,n,h,hc,rfl,hz,hv⟩
theorem aA.tup {K:PySem.W.Frag}{H H':Hp}{a:Addr}{xs:List V} (e:aA H H') (h:dH K H a xs):dH K H' a xs:=by
 rcases h with (h | ⟨o,h⟩) | h
 · exact .inl (.inl (e _ _ h))
 · exact .inl (.inr ⟨o,e _ _ h⟩)
 · exact .inr h
theorem zG {H:Hp}{p:Addr} (h:H p=none) (o:HO):aA H (upd H p o):=fun b u q=>by rw [zI (zJ q h)];exact q
namespace Bt
theorem int:bootBuiltins "int" = some (.type "int"):=PyProof.Rows.boot_int
theorem bool:bootBuiltins "bool" = some (.type "bool"):=PyProof.Rows.boot_bool
theorem str:bootBuiltins "str" = some (.type "str"):=PyProof.Rows.boot_str
theorem list:bootBuiltins "list" = some (.type "list"):=PyProof.Rows.boot_list
theorem tuple:bootBuiltins "tuple" = some (.type "tuple"):=PyProof.Rows.boot_tuple
theorem dict:bootBuiltins "dict" = some (.type "dict"):=PyProof.Rows.boot_dict
theorem set:bootBuiltins "set" = some (.type "set"):=PyProof.Rows.boot_set
theorem isinstance:bootBuiltins "isinstance" = some (.builtin "isinstance"):=PyProof.Rows.boot_isinstance
theorem all:bootBuiltins "all" = some (.builtin "all"):=PyProof.Rows.boot_all
theorem abs:bootBuiltins "abs" = some (.builtin "abs"):=PyProof.Rows.Boot.«abs»
end Bt
end L2
namespace L2
open PySem PySem.Spec PyProof.Rows
abbrev ib (x:Int):Nat:=Builtin.Int.intBits x
theorem Wb {x:Int} (h1:-(2 ^ 64)<x) (h2:x<2 ^ 64):ib x≤64:=intBits_le_64 h1 h2
theorem acb {m:Nat}{x:Int} (h:x.natAbs<2 ^ m):ib x≤m:=intBits_le_iff.mpr h
theorem qy {α:Type}{l:List α}{i:Int} (h0:0≤i) (h1:i<l.length):∃ c,iM l i=some c∧l[i.toNat]? = some c:=by
 have hk:i.toNat<l.length:=by omega
 refine⟨l[i.toNat],?_,List.getElem?_eq_getElem hk⟩
 have e:i=((i.toNat:Nat):Int):=by omega
 have q:iM l ((i.toNat:Nat):Int)=some l[i.toNat]:=zR (List.getElem?_eq_getElem hk)
 rw [← e] at q
 exact q
theorem aA.ty {K:PySem.W.Frag}{H H':Hp}{x:V}{t:Value} (e:aA H H') (h:aB K H x t):aB K H' x t:=by
 cases h with
 | non=>exact .non
 | bl x=>exact .bl x
 | int i=>exact .int i
 | str x=>exact .str x
 | flt x=>exact .flt x
 | lst q=>exact .lst (e _ _ q)
 | ud q=>exact .ud (e _ _ q)
 | tup q=>exact .tup (e _ _ q)
 | dK q=>exact .dK (e _ _ q)
 | dT q=>exact .dT (e _ _ q)
 | ins q a b c d f=>exact .ins (e _ _ q) a b c d f
theorem yK {n m:Nat} (h:n≤m) (hm:m≤16777216:=by decide):n≤sizeLine:=by rw [sizeLine_eq];omega
structure Wc (J:It) (te:TE) (σ:St) (H1:Hp) (Q:VK):Prop where
 ex:∃ (n:Nat) (W:Nat→List V→Hp→Prop),n≤sizeLine∧W 0 [] H1∧∀ i ys H,i≤n→ys.length=i→W i ys H →
   (J.stop i H∧∀ p,H p=none→Q (.ref p) (upd H p (.lst ys)))∨(J.go i H∧i<n∧∀ x H',J.PJ i H x H'→te (some x::σ) H' fun v PL=>W (i+1) (ys++[v]) PL)
def Wd (wi:TI) (te:TE):TE:=fun σ H Q=>wi σ H fun J H1=>Wc J te σ H1 Q
structure acd (J:It) (g:TG) (tb:TS) (D:Ends) (σ:St) (H1:Hp):Prop where
 ex:∃ W:Nat→Nat→St→Hp→Prop,(∃ m,W 0 m σ H1)∧∀ i m σ H,W i m σ H →
   (J.stop i H∧D.nx σ H)∨(J.go i H∧∃ N:St→Hp→Prop,(∀ σ' H',N σ' H'→∃ m',m'<m∧W (i+1) m' σ' H')∧∀ x H',J.PJ i H x H'→g x σ H' fun σ2 H2=>tb { D with nx:=N,ct:=N,bk:=D.nx } σ2 H2)
def agb (wi:TI) (g:TG) (tb:TS):TS:=fun D σ H=>wi σ H fun J H1=>acd J g tb D σ H1
structure ace (c:TT) (tb:TS) (D:Ends) (σ:St) (H:Hp):Prop where
 ex:Vx c tb D σ H
def ZL (c:TT) (tb:TS):TS:=fun D σ H=>ace c tb D σ H
theorem PI.weak {X:Cx}{tg iter:Expr}{wi:TI} (h:PI X tg iter wi) {pins:List (Addr × Obj)}{s:Shared}{σ:St}{H:Hp}{R R':It→Hp→Prop} (I:Inv X pins σ H s) (hw:wi σ H R) (hR:∀ J H1,R J H1→R' J H1) :
   wpAny (model X.prog X.w) X.A (eval iter X.env) (fun v s1=>wpAny (model X.prog X.w) X.A (pyIter v) (PIE X pins σ tg R') X.xe s1) X.xe s:=by
 refine d9 (h pins s σ H R I hw) fun v s1 h1=>d9 h1 fun itv s2 zq=>?_
 obtain⟨it,fp,tn,J,H',e,I',T,st,f,r⟩:=zq
 exact⟨it,fp,tn,J,H',e,I',T,st,f,hR J H' r⟩
section
variable {X:Cx}{scope:Scope}{x:Str}{M:List Str}{elt iter:Expr}{px pos:Pos}{te:TE}{wi:TI}
theorem wZ {tg:Expr}{wi wi':TI} (h:PI X tg iter wi) (hw:∀ σ H R,wi' σ H R→∃ R0,wi σ H R0∧∀ J H1,R0 J H1→R J H1):PI X tg iter wi':=by
 intro pins s σ H R I q
 obtain⟨R0,q0,hR⟩:=hw σ H R q
 exact h.weak I q0 hR
theorem Nk (K:cZ X scope x M) (hc:X.calm=true) (hi:PI X (.Name x px) iter wi) (he:∀ (C:Addr) (s₂:Shared) (H₂:Hp) (fp:List Addr),PE (dM X scope C x M s₂ H₂ fp) elt te)
   (hs:∀ x,foldedSetIterable iter X.env x=pure x:=by intro _;rfl):PE X (.ListComp elt [⟨.Name x px,iter,[],0⟩] scope pos) (Wd wi te):=by
 intro pins s σ H Q I h
 have q:=ZJ (pos:=pos) K hc (wi:=fun σ0 H0 R0=>∃ R,wi σ0 H0 R∧∀ J H1,R J H1→R0 J H1) (wZ hi fun σ H R ⟨R1,a,b⟩=>⟨R1,a,b⟩) he hs pins s σ H Q I
 exact q ⟨_,h,fun J H1 r=>r.ex⟩
theorem We {i:Nat}{y:Str}{spos py:Pos} (hN:X.N.Nodup) (hy:X.N[i]? = some y) (hl:Loc X.env.scope y) (K:cZ X scope x M) (hc:X.calm=true) (hi:PI X (.Name x px) iter wi) (he:∀ (C:Addr) (s₂:Shared) (H₂:Hp) (fp:List Addr),PE (dM X scope C x M s₂ H₂ fp) elt te)
   (hsw:swapsWith (.ListComp elt [⟨.Name x px,iter,[],0⟩] scope pos) (some (.Name y py)) spos.line X.env=pure true:=by rfl)
   (hs:∀ x,foldedSetIterable iter X.env x=pure x:=by intro _;rfl) (hf:X.fn y=true∨X.env.scope.names.lookup y=some .local:=by first | exact .inl rfl | exact .inr rfl | assumption) :
   PS X (.Assign [.Name y py] (.ListComp elt [⟨.Name x px,iter,[],0⟩] scope pos) spos) (T9 (Wd wi te) (bU i)):=by
 intro pins s σ H D I h
 have q:=ZK (pos:=pos) (spos:=spos) hN hy hl K hc (wi:=fun σ0 H0 R0=>∃ R,wi σ0 H0 R∧∀ J H1,R J H1→R0 J H1) (wZ hi fun σ H R ⟨R1,a,b⟩=>⟨R1,a,b⟩) he hsw hs hf pins s σ H D I
 exact q ⟨_,h,fun J H1 r=>r.ex⟩
theorem xK {tg:Expr}{body:List Stmt}{g:TG}{tb:TS} (hp:PassesOwn (model X.prog X.w) X.A X.env X.xe) (hc:X.calm=true) (hi:PI X tg iter wi) (hg:PG X tg g) (hb:m6 X body tb)
   (hs:∀ x,foldedSetIterable iter X.env x=pure x:=by intro _;rfl):PS X (.For tg iter body [] pos) (agb wi g tb):=by
 intro pins s σ H D I h
 have q:=abT (pos:=pos) hp hc (wi:=fun σ0 H0 R0=>∃ R,wi σ0 H0 R∧∀ J H1,R J H1→R0 J H1) (wZ hi fun σ H R ⟨R1,a,b⟩=>⟨R1,a,b⟩) hg hb hs pins s σ H D I
 exact q ⟨_,h,fun J H1 r=>r.ex⟩
theorem Ab {c:Expr}{body:List Stmt}{tc:TT}{tb:TS} (hp:PassesOwn (model X.prog X.w) X.A X.env X.xe) (hc:PT X c tc) (hb:m6 X body tb):PS X (.While c body [] pos) (ZL tc tb):=fun pins s σ H D I h=>Vy hp hc hb pins s σ H D I h.ex
end
theorem Qn {K:PySem.W.Frag}{a:Addr}{xs:List V}{te:TE}{σ:St}{H:Hp}{Q:VK} (hz:xs.length≤sizeLine) (W:Nat→List V→Hp→Prop) (h0:W 0 [] H) (hq:∀ i ys H,W i ys H→bR K H a xs)
   (hs:∀ i x ys H,xs[i]? = some x→ys.length=i→W i ys H→te (some x::σ) H fun v H'=>W (i+1) (ys++[v]) H')
   (hd:∀ ys H,ys.length=xs.length→W xs.length ys H→∀ p,H p=none→Q (.ref p) (upd H p (.lst ys))):Wc (Vj K a) te σ H Q:=⟨Uo hz W h0 hq hs hd⟩
theorem yV {K:PySem.W.Frag}{a:Addr}{xs:List V}{g:TG}{tb:TS}{D:Ends}{σ:St}{H:Hp} (Pv:Nat→St→Hp→Prop) (h0:Pv 0 σ H) (hl:∀ i σ H,i≤xs.length→Pv i σ H→bR K H a xs)
   (hs:∀ i x σ H,xs[i]? = some x→Pv i σ H→g x σ H fun σ2 H2=>tb { D with nx:=Pv (i+1),ct:=Pv (i+1),bk:=D.nx } σ2 H2) (hd:∀ σ H,Pv xs.length σ H→D.nx σ H):acd (Vj K a) g tb D σ H:=⟨VD Pv h0 hl hs hd⟩
theorem Fq {lo:Int}{n:Nat}{g:TG}{tb:TS}{D:Ends}{σ:St}{H:Hp} (Pv:Nat→St→Hp→Prop) (h0:Pv 0 σ H)
   (hs:∀ i σ H,i<n→Pv i σ H→g (.int (lo+i)) σ H fun σ2 H2=>tb { D with nx:=Pv (i+1),ct:=Pv (i+1),bk:=D.nx } σ2 H2) (hd:∀ σ H,Pv n σ H→D.nx σ H):acd (Itr lo n) g tb D σ H:=⟨Ud Pv h0 hs hd⟩
theorem oO {α:Type}{f:α→V}{l:List α}{i:Nat}{x:V} (h:(l.map f)[i]? = some x):∃ a,l[i]? = some a∧x=f a:=by
 rw [List.getElem?_map] at h
 cases e:l[i]? with
 | none=>rw [e] at h;cases h
 | some a=>rw [e] at h;exact⟨a,rfl,(Option.some.inj h).symm⟩
theorem fK {K:PySem.W.Frag}{a b:String}{r:Bool} (h:(if (Value.type a == Value.type b)=true then some true else if PySem.W.kitMeta b=true then (fastBuiltinMro a).map (·.contains (Value.type b)) else none)=some r):PySem.W.kitOne K (.type a) (.type b)=some r:=h
end L2
namespace L2
open PySem PySem.Spec PyProof.Rows PySem.Calls
def TrD (h base:Heap) (e:Addr) (cls:Value) (dct:Option Addr) (fl:Value):Prop :=
 ∃ oe vs T oT ts,h.get? e=some oe∧(oe.cls=cls∧oe.dict=dct)∧oe.data=.fields vs∧vs[1]? = some (.ref T)∧base.get? T=none∧T≠e∧h.get? T=some oT∧oT.data=.fields ts∧ts[3]? = some fl
def agc (base:Heap) (l:List Env) (e:Addr) (cls:Value) (dct:Option Addr) (fl:Value) (h:Heap):Prop :=
 base.StaysIn h∧base.get? e=none∧h.FunFrames base l∧TrD h base e cls dct fl
theorem agc.there {base h:Heap}{l:List Env}{e:Addr}{cls fl:Value}{dct:Option Addr} (x:agc base l e cls dct fl h):∃ ob,h.get? e=some ob∧ob.cls=cls∧ob.dict=dct∧∃ vs,ob.data=.fields vs:=by
 obtain⟨_,_,_,oe,vs,_,_,_,he,hc,hd,_⟩:=x
 exact⟨oe,he,hc.1,hc.2,vs,hd⟩
section
variable {M:Model}{A:Around}{E:Value→Shared→Prop}{s:Shared}
end
end L2
namespace L2
open PySem PySem.Spec PyProof.Rows PySem.Calls
structure XUn (outer:List Env) (H H':Hp) (h B h1:Heap):Prop where
 aa9:∀ b o,h.get? b=some o→H b=none→b∉frs outer→B.get? b=some o
 Wf:∀ b o,h.get? b=some o→b∉frs outer→∃ o',B.get? b=some o'
 slot:∀ b o,h.get? b=some o→H b=none→b∈frs outer→∃ sl,h1.get? b=some { o with slots:=sl }
 free:∀ b o,h.get? b=some o→H b=none→H' b=none
 tups:∀ b xs,H b=some (.tup xs)→H' b=some (.tup xs)
 pD:∀ b o u,H b=some (.ud o u)→H' b=some (.ud o u)
 pF:∀ b ps,H b=some (.iI ps)→∃ more,H' b=some (.iI (ps++more))
theorem XUn.step {outer:List Env}{H H':Hp}{h B h1 h2 base:Heap} (x:XUn outer H H' h B h1) (fr:h1.FunFrames base outer) (up:h1.UpToSlots h2):XUn outer H H' h B h2 :=
 ⟨x.aa9,x.Wf,fun b o e n hb=>by
   obtain⟨sl,q⟩:=x.slot b o e n hb
   obtain⟨_,o',ho',hd'⟩:=fr.mem hb
   rw [q] at ho';cases ho'
   obtain⟨sl',q'⟩:=up b _ q hd'
   exact⟨sl',q'⟩,x.free,x.tups,x.pD,x.pF⟩
theorem XUn.un {outer:List Env}{H H':Hp}{h B h1:Heap} (x:XUn outer H H' h B h1) (st:B.StaysIn h1) (fr:h1.FunFrames B outer):Un (frs outer) [] H H' h h1 :=
 ⟨fun b o e n hb _=>st b o (x.aa9 b o e n hb),fun b o e n hb _=>x.slot b o e n hb,fun b o e n _=>x.free b o e n,fun b o e _=>by
   by_cases hb:b∈frs outer
   · obtain⟨_,o',ho',_⟩:=fr.mem hb
     exact⟨o',ho'⟩
   · obtain⟨o',q⟩:=x.Wf b o e hb
     exact⟨o',st b o' q⟩,x.tups,x.pD,x.pF⟩
section
variable {P:Program}{w:World}{K:PySem.W.Frag}{mg:Str→Option Value}{base:Heap}{N:List Str}{qual:Str}{scope:Scope}{f:Addr}{cdv:Value}{A:Around}{outer:List Env}{s:Shared}{H:Hp}{E:XK}
end
section
variable {P:Program}{w:World}{K:PySem.W.Frag}{mg:Str→Option Value}{base:Heap}
end
end L2
namespace L2
open PySem PySem.Spec PyProof.Rows PySem.Calls PySem.W PySem.Builtin PySem.Builtin.ObjectAttr PySem.Builtin.Getset_descriptor
section
variable {prog:Program}{w:World}{A:Around}{E:Value→Shared→Prop}{s:Shared}{K:PySem.W.Frag}{x D:Addr}
def ClsAt (h:Heap) (x D:Addr):Prop:=∃ o,h.get? x=some o∧o.cls=.ref D
theorem ClsAt.type {M:Model}{h:Heap} (p:ClsAt h x D):Looks M h (typeOf (.ref x)) (.ref D):=by
 obtain⟨o,e,c⟩:=p
 exact c ▸ (Looks.ld e).andThen .now
theorem Qo {M:Model}{h:Heap}{name:Str}{a g:Value} (X:K.In h) (hf:findIn K (.ref D) name=some (some a)) (hg:specialIn K a "__get__" = some (some g)) (ht:takesIn K a=some true):Looks M h (find (.ref x) (.ref D) name) (.bind g a):=by
 have l1:=looks_findIn (M:=M) X hf
 have l2:Looks M h (getOf (some a)) (some g):=looks_specialIn X hg
 have l3:=looks_takesIn (M:=M) X ht
 refine l1.andThen (l2.andThen ?_)
 have l4:Looks M h (dataDescriptor? (some a) (some g)) (some (g,a)):=l3.andThen .now
 exact l4.andThen (Looks.tag .now)
structure Ac (K:PySem.W.Frag) (D:Addr):Prop where
 ga:findIn K (.ref D) "__getattribute__" = some (some (.builtin "BaseException.__getattribute__"))
 gk:findIn K (.ref D) "__getattr__" = some none
 cl:(clsIn K D).isSome=true
 ha:findIn K (.ref D) "__class__" = some (some (.builtin "object.__class__"))
 hn:specialIn K (.builtin "object.__class__") "__get__" = some (some (.builtin "getset_descriptor.__get__"))
 tk:takesIn K (.builtin "object.__class__")=some true
 mo:mroIn K D (.type "object")=some true
 mb:mroIn K D (.type "BaseException")=some true
theorem class_get {R:Result→Shared→Prop} (c:Ac K D) (X:K.In s.heap) (p:ClsAt s.heap x D) (q:R (.ok (.ret (.ref D))) s) :
   codeAny (model prog w) A (.call (.builtin "getset_descriptor.__get__") ⟨[.builtin "object.__class__",.ref x,.ref D],[]⟩) R s:=by
 obtain⟨hh,g,d,t,os⟩:=s
 obtain⟨o,eo,ec⟩:=id p
 have t0:=p.type (M:=model prog w)
 have l1:=looks_mroIn (M:=model prog w) X c.mo
 have atD:=KF.args_gs (Value.builtin "object.__class__") (Value.ref x) (Value.ref D)
 refine codeAny_call_builtin KF.slot_gs.plain KF.entry_gs
   (KF.slot_gs.check _ _ _ _ _ _ _ _ KF.type_class atD ?_)
 unfold Builtin.«getset_descriptor.__get__»
   descrGet
 rw [dga_obj];refine wpAny_bind (wpAny_pure ?_)
 unfold descrGetter descrCheckInstance
   descrNameAndClass isInstance
 simp only [KF.owner_class]; (repeat lk)
 refine⟨Code.quiet_builtin _
   (by symm),codeAny_builtin KF.entry_class ?_⟩
 unfold Builtin.«object.__class__»
   shownTypeOf
 (repeat lk);exact q
theorem Qp {tk:Tok}{R:Result→Shared→Prop} (c:Ac K D) (X:K.In s.heap) (p:ClsAt s.heap x D) (q:R (.ok (.ret (.ref D))) s) :
   codeAny (model prog w) A (.call (.builtin "BaseException.__getattribute__") ⟨[.ref x,.str "__class__" tk],[]⟩) R s:=by
 obtain⟨hh,g,d,t,os⟩:=s
 obtain⟨o,eo,ec⟩:=id p
 have t0:=p.type (M:=model prog w)
 have lb:=looks_mroIn (M:=model prog w) X c.mb
 have f0:=Qo (x:=x) (M:=model prog w) X c.ha c.hn c.tk
 have hk:builtinKind "BaseException.__getattribute__" = some .slot:=by symm
 have hsplit:splitId "BaseException.__getattribute__" = some ("BaseException","__getattribute__"):=by symm
 have ha:=F.args_bexc_ga (.ref x) (.str "__class__" tk)
 refine codeAny_call_builtin F.excAttr_ValueError.ga.plain F.entry_bexc_ga ?_
 simp only [checkBuiltinCall,hk,hsplit]
 unfold isInstance
 refine wpAny_bind ?_
 (repeat (first | (with_reducible refine wpAny_call (class_get c X p ?_)) | lk))
 exact q
theorem Wg {Q:Option Value→Shared→Prop} (c:Ac K D) (X:K.In s.heap) (p:ClsAt s.heap x D) (q:Q (some (.ref D)) { s with toks:=s.toks+1 }):wpAny (model prog w) A (getAttr? (.ref x) "__class__") Q E s:=by
 obtain⟨hh,g,d,t,os⟩:=s
 obtain⟨o,eo,ec⟩:=id p
 have t0:=p.type (M:=model prog w)
 have t1:=looks_findIn (M:=model prog w) X c.ga
 have f1:=looks_findIn (M:=model prog w) X c.gk
 have f3:=F.excAttr_ValueError.ga.bind (.ref x)
 unfold getAttr? getAttrBy? getAttrBy
 refine wpAny_bind (wpAny_mkText (wpAny_bind (wpAny_attempt (wpAny_holding (wpAny_bind (t0.at (wpAny_bind (t1.at ?_))))))))
 show wpAny _ _ (getAttrByItsOwn _ _ _ _ _ _) _ _ _
 unfold getAttrByItsOwn hookBefore
 refine wpAny_bind (f1.at (wpAny_bind (wpAny_attempt (wpAny_holding ?_))))
 show wpAny _ _ (boundAndCalled _ _ _) _ _ _
 unfold boundAndCalled
 rw [f3]
 refine wpAny_bind (wpAny_pure (wpAny_call ?_))
 refine Qp c (s:=⟨hh,g,d,t+1,os⟩) X p ?_
 exact wpAny_pure (wpAny_pure q)
theorem Td (c:Ac K D):KitX K (.ref x) (.ref D) (fun h=>ClsAt h x D) where
 ty:=fun _ _ _ p=>p.type
 it:=fun _ _ X _=>by
   obtain⟨cd,e⟩:=Option.isSome_iff_exists.mp c.cl
   unfold clsIn at e
   split at e
   · rename_i c' d' cd' sl' ho
     intro A' Q' E' s' k q
     unfold isType loadHead
     exact wpAny_bind (wpAny_loadPart (k _ _ (X _ _ ho)) (wpAny_pure q))
   · cases e
 ne:=fun h tp dd its n sl X htp=>by
   obtain⟨cd,e⟩:=Option.isSome_iff_exists.mp c.cl
   refine Bool.eq_false_iff.mpr fun q=>?_
   have z:D=tp:=Value.ref.inj (beq_iff_eq.mp q)
   subst z
   unfold clsIn at e
   split at e
   · rename_i c' d' cd' sl' ho
     have z:=(X _ _ ho).symm.trans htp
     cases z
   · cases e
 ca:=fun X p k=>Wg c X p k
end
def age (a D:Addr):HO:=.ext fun h=>ClsAt h a D
def agf (a D dx:Addr):HO:=.ext fun h=>∃ o,h.get? a=some o∧o.cls=.ref D∧o.dict=some dx∧∃ vs,o.data=.fields vs
inductive YW (K:PySem.W.Frag) (H:Hp):V→Value→Prop where
 | old {x:V}{t:Value} (h:aB K H x t):YW K H x t
 | exc {a D:Addr} (h:H a=some (age a D)) (c:Ac K D):YW K H (.ref a) (.ref D)
 | tpl {a:Addr}{xs:List V} (h:dH K H a xs):YW K H (.ref a) (.type "tuple")
 | acf {a D dx:Addr} (h:H a=some (agf a D dx)) (c:Ac K D):YW K H (.ref a) (.ref D)
def ZM:V→Value
 | .ref a=>.ref a
 | .ty n=>.type n
 | _=>.none
def Te:V→Bool
 | .ref _=>true
 | .ty _=>true
 | _=>false
section
variable {X:Cx}{pins:List (Addr × Obj)}{σ:St}{H:Hp}{s:Shared}{A:Around}{E:Value→Shared→Prop}{Q:Value→Shared→Prop}{c:Value}{b:Bool}
theorem Wh {x:V}{u t:Value} (I:Inv X pins σ H s) (rx:RelV x u) (ty:YW X.K H x t):(∃ P:Heap→Prop,KitX X.K u t P∧P s.heap)∧u≠.builtin "__main__.__loader__#opaque":=by
 cases ty with
 | @tpl a xs h =>
   cases (show u=Value.ref a from rx)
   obtain⟨its,r,pl,hz⟩:=I.tuple h
   obtain⟨o,h1,h2,_⟩:=pl
   exact⟨⟨_,kitx_tuple,⟨o,h1,h2⟩⟩,fun z=>nomatch z⟩
 | old ty =>
   cases ty with
   | non=>cases (show u=Value.none from rx);exact⟨⟨_,kitx_none,True.intro⟩,fun z=>nomatch z⟩
   | bl y=>cases (show u=Value.bool y from rx);exact⟨⟨_,kitx_bool,True.intro⟩,fun z=>nomatch z⟩
   | int i=>obtain⟨t,q⟩:=(show ∃ t,u=Value.int i t from rx);cases q;exact⟨⟨_,kitx_int,True.intro⟩,fun z=>nomatch z⟩
   | str y=>obtain⟨t,q⟩:=(show ∃ t,u=Value.str y t from rx);cases q;exact⟨⟨_,kitx_str,True.intro⟩,fun z=>nomatch z⟩
   | flt y=>obtain⟨t,q⟩:=(show ∃ t,u=Value.float y t from rx);cases q;exact⟨⟨_,kitx_float,True.intro⟩,fun z=>nomatch z⟩
   | @lst a xs ea =>
     cases (show u=Value.ref a from rx)
     obtain⟨_,_,n,_,h1⟩:=(show cI X.prog X.w H s.heap a (.lst xs) from I.hok a _ ea)
     exact⟨⟨_,kitx_list,⟨_,h1,rfl⟩⟩,fun z=>nomatch z⟩
   | @ud a ob xs ea =>
     cases (show u=Value.ref a from rx)
     obtain⟨_,_,_,n,_,h1⟩:=(show cI X.prog X.w H s.heap a (.ud ob (.lst xs)) from I.hok a _ ea)
     exact⟨⟨_,kitx_list,⟨_,h1,rfl⟩⟩,fun z=>nomatch z⟩
   | @tup a xs ea =>
     cases (show u=Value.ref a from rx)
     obtain⟨_,_,_,p⟩:=(show cI X.prog X.w H s.heap a (.tup xs) from I.hok a _ ea)
     obtain⟨o,h1,h2,_⟩:=p
     exact⟨⟨_,kitx_tuple,⟨o,h1,h2⟩⟩,fun z=>nomatch z⟩
   | @dK a kvs ea =>
     cases (show u=Value.ref a from rx)
     obtain⟨_,_,vs,_,p⟩:=(show cI X.prog X.w H s.heap a (.dK kvs) from I.hok a _ ea)
     obtain⟨o,es,ep,h1,h2,_⟩:=p
     exact⟨⟨_,kitx_dict,⟨o,h1,h2.1⟩⟩,fun z=>nomatch z⟩
   | @dT a kvs ea =>
     cases (show u=Value.ref a from rx)
     obtain⟨_,_,xs,_,o,es,ep,h1,h2,_⟩:=(show cI X.prog X.w H s.heap a (.dT kvs) from I.hok a _ ea)
     exact⟨⟨_,kitx_dict,⟨o,h1,h2.1⟩⟩,fun z=>nomatch z⟩
   | @ins a C dx fs ea cl ha hn htk hm =>
     cases (show u=Value.ref a from rx)
     obtain⟨mA,O,_⟩:=Em I.hok ea
     obtain⟨od,J,_⟩:=O.look
     exact⟨⟨_,kitx_own (cl.get _) cl.hd ha hn htk hm,J⟩,fun z=>nomatch z⟩
 | @exc a D h c =>
   cases (show u=Value.ref a from rx)
   obtain⟨p,_⟩:=(show cI X.prog X.w H s.heap a (age a D) from I.hok a _ h)
   exact⟨⟨_,Td c,p⟩,fun z=>nomatch z⟩
 | @acf a D dx h c =>
   cases (show u=Value.ref a from rx)
   obtain⟨⟨o,e,k,_⟩,_⟩:=(show cI X.prog X.w H s.heap a (agf a D dx) from I.hok a _ h)
   exact⟨⟨_,Td c,⟨o,e,k⟩⟩,fun z=>nomatch z⟩
theorem Np {x:V}{u:Value} (h:Te x=true) (r:RelV x u):u=ZM x:=by
 cases x with
 | ref a=>exact r
 | ty n=>exact r
 | _=>cases h
theorem JL:∀ {xs:List V}{us:List Value},xs.all Te=true→Vals xs us→us=xs.map ZM
 | [],_,_,.nil=>rfl
 | x::xs,_,h,.cons r rs=>by
   rw [List.all_cons,Bool.and_eq_true] at h
   rw [Np h.1 r,JL h.2 rs];rfl
theorem yS:cg X (.builtin "isinstance") (fun xs H Q=>∃ x y t b,xs=[x,y]∧Te y=true∧YW X.K H x t∧PySem.W.kitOne X.K t (ZM y)=some b∧Q (.bl b) H):=by
 intro pins s σ H xs us Q I r h
 obtain⟨x,y,t,b,rfl,hc,ty,e,q⟩:=h
 obtain⟨u,w',rfl,rx,ry⟩:=vals2 r
 obtain rfl:=Np hc ry
 obtain⟨⟨P,Z,p⟩,nb⟩:=Wh I rx ty
 exact kia_one Z I.Dd p e nb fun tk=>⟨.bl b,H,I.tok _,rfl,q⟩
theorem uh:cg X (.builtin "isinstance") (fun xs H Q=>∃ x tp cs t b,xs=[x,.ref tp]∧H tp=some (.tup cs)∧cs.all Te=true∧YW X.K H x t∧PySem.W.kitAny X.K t (cs.map ZM)=some b∧Q (.bl b) H):=by
 intro pins s σ H xs us Q I r h
 obtain⟨x,tp,cs,t,b,rfl,ht,hc,ty,e,q⟩:=h
 obtain⟨u,w',rfl,rx,ry⟩:=vals2 r
 cases ry
 obtain⟨⟨P,Z,p⟩,nb⟩:=Wh I rx ty
 obtain⟨_,its,rv,o,ho,hcl,n,hd⟩:=(show cI X.prog X.w H s.heap tp (.tup cs) from I.hok tp _ ht)
 obtain rfl:=JL hc rv
 obtain⟨oc,od,oda,osl⟩:=o
 dsimp only at hcl hd
 subst hcl hd
 exact kia_tup Z I.Dd p ho e nb fun tk=>⟨.bl b,H,I.tok _,rfl,q⟩
end
end L2
namespace L2
open PySem PySem.Spec PyProof.Rows PySem.Calls PySem.W
abbrev aba:List Value:=[.type "ValueError",.type "Exception",.type "BaseException",.type "object"]
section
variable {P:Program}{w:World}{K:PySem.W.Frag}{mg:Str→Option Value}{base:Heap}{N:List Str}{qual:Str}{scope:Scope}{f:Addr}{cdv:Value}{A:Around}{outer:List Env}{s:Shared}{H:Hp}{E:XK}
end
abbrev TSx:=Ends→(St→XK)→St→Hp→Prop
section
variable {X:Cx}{k:Nat}{f C:Addr}{fd:FuncData}{ps:List Str}{sp:Sp}{rE:List V}{ds:List Value}{x m:Str}{p pos apos:Pos}{e o:Expr}{es:List Expr}{ta:TE}{t:TA}
theorem PA.Ej {es:List Expr}{t:TA} (h:PA X.Ej es t) (E:Value→Shared→Prop) {pos:Pos}{pins:List (Addr × Obj)}{s:Shared}{σ:St}{H:Hp}{Q:List V→Hp→Prop} (I:Inv X pins σ H s) (q:t σ H Q) :
   wpAny (model X.prog X.w) X.A (spliced (backTo pos (starEach es X.env))) (AP X pins σ Q) E s :=
 wpAny_mono (h pos pins s σ H Q (I.wish _) q) (fun _ _ ⟨vs,H',I',r,q⟩=>⟨vs,H',I'.lM,r,q⟩) fun _ _ z=>False.elim z
end
def hcx (X:Cx) (e:Addr):Cx:={ X with A:=X.A.mark (some (.ref e)),calm:=false,xe:=fun _ _=>False }
section
variable {X:Cx}{body suite:List Stmt}{b₀:Stmt}{x:Str}{C:Addr}{np hpos pos:Pos}{tb:TSx}{th:TS}
end
end L2
namespace L2
open PySem PySem.Spec PyProof.Rows PySem.Calls PySem.W
section
variable {X:Cx}{pins:List (Addr × Obj)}{σ:St}{H:Hp}{s:Shared}
end
section
variable {X:Cx}{body suite:List Stmt}{b₀:Stmt}{x n:Str}{C:Addr}{np hpos pos:Pos}{tb:TSx}{th:TS}{j:Nat}
end
end L2
namespace L2
open PySem PySem.Spec PyProof.Rows PySem.Calls
section
variable {X:Cx}
def m8 (l:List Nat):Nat→List Nat
 | 0=>[]
 | k+1=>m8 l k++l
theorem Ft (l:List Nat):∀ k,(m8 l k).length=k*l.length
 | 0=>by simp [m8]
 | k+1=>by rw [m8,List.length_append,Ft l k,Nat.succ_mul]
theorem Wi (x:Str) (k:Nat):(⟨(List.replicate k x.cps).foldl (· ++ ·) #[]⟩:Str)=S (m8 (cd x) k):=by
 have g:∀ k,(List.replicate k x.cps).foldl (· ++ ·) #[]=(m8 (cd x) k).toArray:=fun k=>by
   induction k with
   | zero=>rfl
   | succ k ih=>rw [List.replicate_succ',List.foldl_append,ih];show _++x.cps=_;rw [m8];apply Array.ext';simp [cd]
 rw [g];rfl
theorem Fv:iw X (binaryOp .Mult) (fun x y H Q=>∃ z n,x=.str z∧y=.int n∧0≤n∧n≤1000000∧z.length*n.toNat≤1000000∧z.length≤1000000∧Q (.str (S (m8 (cd z) n.toNat))) H):=by
 intro pins s σ H x y v u Q I rx ry h
 obtain⟨z,n,rfl,rfl,h0,h1,h2,h3,q⟩:=h
 obtain⟨t,rfl⟩:=rx
 obtain⟨t',rfl⟩:=ry
 have tl:Builtin.Str.tooLong (z.length*n.toNat)=false:=by
   unfold Builtin.Str.tooLong
   exact decide_eq_false (by rw [sizeLine_eq];omega)
 refine P.mul_str ?_ ?_ (fun _ _=>tl) ?_
 · rw [decide_eq_false (by omega),decide_eq_false (by omega)];rfl
 · intro hn _ hgt
   have:(2 ^ 63 - 1:Int) / n ≥ 1000000:=by
     have:(1000000:Int)*n≤2 ^ 63 - 1:=by omega
     exact Int.le_ediv_of_mul_le (by omega) this
   omega
 · have fin:∀ y:Str,y=S (m8 (cd z) n.toNat)→∀ t tk,EP X pins σ Q (.str y t) { s with toks:=tk }:=fun y e t tk=>by
     subst e;exact⟨.str _,H,I.tok _,⟨_,rfl⟩,q⟩
   by_cases hn:n<1
   · rw [if_pos hn]
     have e0:n=0:=by omega
     subst e0
     exact⟨by rw [sizeLine_eq];exact Nat.zero_le _,fin _ rfl _ _⟩
   · rw [if_neg hn]
     by_cases h1:(n == 1 || z.length == 0)=true
     · rw [if_pos h1]
       refine fin z ?_ t s.toks
       rcases Bool.or_eq_true_iff.mp h1 with e | e
       · have e':n=1:=by simpa using e
         subst e'
         show z=S (m8 (cd z) 1)
         rw [show m8 (cd z) 1=cd z from by simp [m8],af9]
       · have e':(cd z)=[]:=List.eq_nil_of_length_eq_zero (by rw [← m7];simpa using e)
         have:∀ k,m8 [] k=[]:=fun k=>by induction k with | zero=>rfl | succ k ih=>simp [m8,ih]
         rw [e',this,← e',af9]
     · rw [if_neg h1]
       refine⟨?_,fin _ (Wi z n.toNat) _ _⟩
       rw [Wi,aa8,Ft,← m7,sizeLine_eq,Nat.mul_comm]
       omega
end
end L2
namespace L2
open PySem PySem.Spec PyProof.Rows PySem.Calls
structure Dj (K:PySem.W.Frag) (x qual:Str) (st:Stmt) (ds:List Value) (f:Addr) (fd:FuncData):Prop where
 ex:∃ (T:Addr) (oc:Value) (od:Option Addr) (kV doc pm:Value) (an:Option Addr) (cdv ct:Value) (osl:Array (Option Value)) (to:Obj) (n:Nat),
   fd=PySem.W.fnOf x qual (ak st) (aj st) (aa st) (.ref T) kV doc pm an cdv ct∧K.lookup f=some ⟨oc,od,.func fd,osl⟩∧PySem.W.codeIn K cdv qual=true∧K.lookup T=some to∧to.cls=.type "tuple"∧to.data=.seq ds.toArray n
 kp:PySem.W.keepIn K (.ref f)=true
section
variable {P:Program}{w:World}{K:PySem.W.Frag}{mg:Str→Option Value}{base:Heap}{x qual:Str}{st:Stmt}{f:Addr}{fd:FuncData}{N ps:List Str}{k:Nat}{sp:Sp}{ds:List Value}
theorem Dj.ok (F:Dj K x qual st ds f fd) (S:au N ps (aa st)) (len:∀ vs H Q E,sp vs H Q E→vs.length=ps.length)
   (hbody:∀ (cdv:Value) (A:Around) (outer:List Env) (s:Shared) (H:Hp) (vs:List V) (Q:VK) (E:XK),fD k (A.deeper (envOfC qual (aa st) s.heap.objs.size f cdv))→sp vs H Q E →
     ∃ t,m6 (Kg bQ P w K mg base N qual (aa st) f cdv A outer s H E).Ej (aj st) t∧t { nx:=fun _ H'=>Q .non H',rt:=Q } (start N vs) H):aG P w K mg base bQ (k+1) f fd ps sp:=by
 obtain⟨T,oc,od,kV,doc,pm,an,cdv,ct,osl,to,n,rfl,lk,hcd,_⟩:=F.ex
 refine SN lk hcd S len fun A outer s H vs Q E hr hsp=>?_
 obtain⟨t,h,q⟩:=hbody cdv A outer s H vs Q E hr hsp
 exact⟨t,h.Ej,q⟩
theorem Dj.binds {es:List Value} (F:Dj K x qual st ds f fd)
   (h:∀ (T:Addr) (kV doc pm:Value) (an:Option Addr) (cdv ct:Value) (us:List Value) (M:Model) (A:Around) (E:Value→Shared→Prop) (Q:List (Str × Value)→Shared→Prop) (s:Shared) (to:Obj) (n:Nat),s.heap.get? T=some to→to.cls=.type "tuple"→to.data=.seq ds.toArray n →
     (us++es).length=ps.length→Q (ps.zip (us++es)) s→wpAny M A (bindArgs (PySem.W.fnOf x qual (ak st) (aj st) (aa st) (.ref T) kV doc pm an cdv ct) ⟨us,[]⟩) Q E s):Binds K fd ps es:=by
 obtain⟨T,oc,od,kV,doc,pm,an,cdv,ct,osl,to,n,rfl,lk,hcd,lt,tc,td⟩:=F.ex
 intro s us X hl M A E Q q
 exact h T kV doc pm an cdv ct us M A E Q s to n (X _ _ lt) tc td hl q
end
section
variable {K:PySem.W.Frag}{C D:Addr}{cd:ClassData}{r b:Bool}{T:String}
theorem p8:PySem.W.kitOne K (.ref D) (.ref D)=some true:=by unfold PySem.W.kitOne;rw [if_pos (beq_self_eq_true _)]
theorem Qq (h1:PySem.W.clsIn K C=some cd) (h2:PySem.W.typeIn K (.ref C)=some (.type "type")) (h3:PySem.W.mroIn K D (.ref C)=some r):PySem.W.kitCls K (.ref D) (.ref C)=some r:=by
 show (if ((PySem.W.clsIn K C).isSome && PySem.W.typeIn K (.ref C) == some (.type "type"))=true then PySem.W.mroIn K D (.ref C) else none)=some r
 rw [h1,h2,h3];rfl
theorem qz (h1:PySem.W.clsIn K C=some cd) (h2:PySem.W.typeIn K (.ref C)=some (.type "type")) (h3:PySem.W.mroIn K D (.ref C)=some r) (hne:(Value.ref D == Value.ref C)=false):PySem.W.kitOne K (.ref D) (.ref C)=some r:=by
 unfold PySem.W.kitOne
 rw [if_neg (by rw [hne];decide)]
 exact Qq h1 h2 h3
theorem oR {α:Type}{us ds:List α}{n m:Nat} (h:(us++ds).length=n) (hm:ds.length+m=n):us.length=m:=by rw [List.length_append] at h;omega
theorem xJ {x qual:Str}{st:Stmt}{f T:Addr}{oc:Value}{od an dd:Option Addr}{osl dsl:Array (Option Value)}{kV doc pm cdv ct:Value}{ds:List Value}{n:Nat} (l:K.lookup f=some ⟨oc,od,.func (PySem.W.fnOf x qual (ak st) (aj st) (aa st) (.ref T) kV doc pm an cdv ct),osl⟩)
   (c:PySem.W.codeIn K cdv qual=true) (k:PySem.W.keepIn K (.ref f)=true) (lt:K.lookup T=some ⟨.type "tuple",dd,.seq ds.toArray n,dsl⟩):Dj K x qual st ds f (PySem.W.fnOf x qual (ak st) (aj st) (aa st) (.ref T) kV doc pm an cdv ct) :=
 ⟨⟨T,oc,od,kV,doc,pm,an,cdv,ct,osl,_,n,rfl,l,c,lt,rfl,rfl⟩,k⟩
end
end L2
namespace L2
theorem Bt.ValueError:PySem.bootBuiltins "ValueError" = some (.type "ValueError"):=PyProof.Rows.Boot.«ValueError»
open PySem PySem.Spec PyProof.Rows
def val (l:List Nat):Int:=l.foldl (fun a c=>a*10+((c - 48:Nat):Int)) 0
structure w5 (n:Nat) (z:Str):Prop where
 len:z.length≤n
 cod:∀ c∈cd z,c<1000
theorem w5.mono {n m:Nat}{z:Str} (h:w5 n z) (l:n≤m):w5 m z:=⟨Nat.le_trans h.len l,h.cod⟩
theorem w5.app {n m:Nat}{x y:Str} (h:w5 n x) (k:w5 m y):w5 (n+m) (x++y):=by
 refine⟨?_,fun c hc=>?_⟩
 · rw [m7,Aa,List.length_append,← m7,← m7];have:=h.len;have:=k.len;omega
 · rw [Aa] at hc
   rcases List.mem_append.mp hc with e | e
   · exact h.cod c e
   · exact k.cod c e
theorem w5.cut {n:Nat}{z:Str} (h:w5 n z) (lo hi:Option Int):w5 n (S (aga (cd z) lo hi)):=by
 refine⟨?_,fun c hc=>?_⟩
 · rw [aa8];unfold aga;rw [List.length_take,List.length_drop,← m7];have:=h.len;omega
 · rw [aca] at hc;exact h.cod c (List.mem_of_mem_drop (List.mem_of_mem_take hc))
theorem w5.size {n:Nat}{z:Str} (h:w5 n z) (hn:n≤100000:=by decide):z.length≤sizeLine:=by rw [sizeLine_eq];have:=h.len;omega
theorem w5.int {i:Int}{k:Nat} (hk:0<k) (h:i.natAbs<10 ^ k):w5 (k+1) (toString i):=by
 refine⟨?_,fun c hc=>?_⟩
 · rw [show ((toString i:String):Str).length=(toString i).length from PySem.ofString_length _]
   exact int_text_length_le10 hk h
 · rcases Nat.lt_or_ge c 1000 with z | z
   · exact z
   · exact absurd hc (int_text_free' c ⟨by omega,by omega⟩ i)
end L2
namespace L2
open PySem PySem.Spec PyProof.Rows PySem.Calls
structure EqJ (X:Cx) (H:Hp) (n:Nat) (x y:V) (b:Bool):Prop where
 rc:∀ (pins:List (Addr × Obj)) (s:Shared) (σ:St) (u v:Value) (A:Around),Inv X pins σ H s→RelV x u→RelV y v→A.units+n<cLine→SeqAt.RcAt A s u v b
 ne:∀ (pins:List (Addr × Obj)) (s:Shared) (σ:St) (u v:Value) (A:Around),Inv X pins σ H s→RelV x u→RelV y v→A.units+n<cLine→SeqAt.RcNeAt A s u v (!b)
def ZP (X:Cx) (H:Hp) (n:Nat) (x y:V) (b:Bool):Prop :=
 ∀ (pins:List (Addr × Obj)) (s:Shared) (σ:St) (u v:Value) (A:Around),Inv X pins σ H s→RelV x u→RelV y v→A.units+n<cLine→SeqAt.EqAt A s u v b
section
variable {X:Cx}{H:Hp}{n:Nat}{x y:V}{b:Bool}{p q:Addr}{xs ys:List V}
theorem Wj (fx:fH x=true) (fy:fH y=true):ZP X H n x y (JB x y):=fun _ _ _ _ _ _ _ rx ry _=>V0 rx ry fx fy
theorem Wk:ZP X H n (.ref p) (.ref p) true:=fun _ _ _ _ _ _ _ rx ry _=>by cases rx;cases ry;exact SeqAt.EqAt.same _
theorem Wl (hn:p≠q) (h:EqJ X H n (.ref p) (.ref q) b):ZP X H n (.ref p) (.ref q) b:=fun pins s σ u v A I rx ry hu=>by
 have r:=h.rc pins s σ u v A I rx ry hu
 cases rx;cases ry
 exact SeqAt.EqAt.of_refs hn r
theorem Kv {xs:List V}{us:List Value} (r:Vals xs us) {j:Nat} (h:j<us.toArray.size):∃ x,xs[j]? = some x∧RelV x us.toArray[j]:=by
 have hj:j<us.length:=by simpa using h
 have hx:j<xs.length:=by rw [r.length];exact hj
 obtain⟨u,hu,ru⟩:=r.get (List.getElem?_eq_getElem hx)
 refine⟨xs[j],List.getElem?_eq_getElem hx,?_⟩
 rw [List.getElem?_eq_getElem hj] at hu
 cases hu
 simpa using ru
theorem Wm {e:Nat→Bool} (h:dH X.K H p xs) (k:dH X.K H q ys) (he:∀ (j:Nat) x y,xs[j]? = some x→ys[j]? = some y→ZP X H n x y (e j)) :
   EqJ X H (n+1) (.ref p) (.ref q) ((List.range (min xs.length ys.length)).all e && xs.length == ys.length):=by
 have g:∀ (pins:List (Addr × Obj)) (s:Shared) (σ:St) (A:Around),Inv X pins σ H s→A.units+(n+1)<cLine→∃ its its':List Value,s.heap.IsTuple p its.toArray∧s.heap.IsTuple q its'.toArray∧its.toArray.size=xs.length∧its'.toArray.size=ys.length ∧
     ∀ j (h1:j<its.toArray.size) (h2:j<its'.toArray.size),SeqAt.EqAt A.in1 s its.toArray[j] its'.toArray[j] (e j):=fun pins s σ A I hu=>by
   obtain⟨its,r,pl,_⟩:=I.tuple h
   obtain⟨its',r',pl',_⟩:=I.tuple k
   have l1:=r.length
   have l2:=r'.length
   refine⟨its,its',pl,pl',by simp only [List.size_toArray];omega,by simp only [List.size_toArray];omega,fun j h1 h2=>?_⟩
   obtain⟨x,hx,rx⟩:=Kv r h1
   obtain⟨y,hy,ry⟩:=Kv r' h2
   exact he j x y hx hy pins s σ _ _ A.in1 I rx ry (by show A.units+1+n<_;omega)
 refine⟨fun pins s σ u v A I rx ry hu=>?_,fun pins s σ u v A I rx ry hu=>?_⟩ <;> (cases rx;cases ry;have hu':A.units<cLine:=by omega)
 · obtain⟨its,its',a,b,c,d,z⟩:=g pins s σ A I hu
   rw [← c,← d];exact SeqAt.RcAt.tuples a b hu' z
 · obtain⟨its,its',a,b,c,d,z⟩:=g pins s σ A I hu
   rw [← c,← d]
   exact SeqAt.RcNeAt.tuples a b hu' z
theorem Nq {x:V} (h:fH x=true):JB x x=true:=by
 cases x <;> first | rfl | exact beq_self_eq_true _ | cases h
def zx:List V→List V→Bool
 | [],[]=>true
 | x::xs,y::ys=>JB x y && zx xs ys
 | _,_=>false
theorem JM:∀ {xs ys:List V},xs.length=ys.length→(List.range xs.length).all (fun j=>JB (xs.getD j .non) (ys.getD j .non))=zx xs ys
 | [],[],_=>rfl
 | x::xs,y::ys,h=>by
   have h':xs.length=ys.length:=Nat.succ.inj h
   rw [List.length_cons,List.range_succ_eq_map,List.all_cons,List.all_map,zx,← JM h']
   rfl
 | [],_::_,h=>by cases h
 | _::_,[],h=>by cases h
theorem Tf:∀ {xs ys:List V},zx xs ys=true→xs.length=ys.length
 | [],[],_=>rfl
 | x::xs,y::ys,h=>by rw [zx,Bool.and_eq_true] at h;rw [List.length_cons,List.length_cons,Tf h.2]
 | [],_::_,h=>by cases h
 | _::_,[],h=>by cases h
theorem Nr:∀ {xs:List V},xs.all fH=true→zx xs xs=true
 | [],_=>rfl
 | x::xs,h=>by rw [List.all_cons,Bool.and_eq_true] at h;rw [zx,Nq h.1,Nr h.2];rfl
theorem w6 {xs:List V} (h:xs.all fH=true) {j:Nat}{x:V} (e:xs[j]? = some x):fH x=true∧xs.getD j .non=x :=
 ⟨List.all_eq_true.mp h x (List.mem_of_getElem? e),by rw [List.getD,e];rfl⟩
theorem Ad (h:dH X.K H p xs) (k:dH X.K H q ys) (fx:xs.all fH=true) (fy:ys.all fH=true):EqJ X H (n+1) (.ref p) (.ref q) (zx xs ys):=by
 have e:((List.range (min xs.length ys.length)).all (fun j=>JB (xs.getD j .non) (ys.getD j .non)) && xs.length == ys.length)=zx xs ys:=by
   by_cases hl:xs.length=ys.length
   · rw [← hl,Nat.min_self,beq_self_eq_true,Bool.and_true];exact JM hl
   · have:zx xs ys=false:=by
       cases e:zx xs ys with
       | false=>rfl
       | true=>exact absurd (Tf e) hl
     rw [this,beq_eq_false_iff_ne.mpr hl,Bool.and_false]
 rw [← e]
 refine Wm h k fun j x y hx hy=>?_
 obtain⟨a,a'⟩:=w6 fx hx
 obtain⟨b,b'⟩:=w6 fy hy
 rw [a',b']
 exact Wj a b
theorem acg (hu:X.A.units+20<cLine):iw X (compareOp .Eq) (fun x y H Q=>∃ b,EqJ X H 20 x y b∧Q (.bl b) H):=by
 intro pins s σ H x y v u Q I rx ry h
 obtain⟨b,e,q⟩:=h
 exact e.rc pins s σ v u X.A I rx ry hu X.prog X.w X.xe _ ⟨.bl b,H,I,rfl,q⟩
theorem agg {A:Around}{k:Nat} (hr:fD k A):A.units+20<cLine:=by have:=hr.units;omega
end
end L2
namespace L2
open PySem PySem.Spec PyProof.Rows PySem.Calls
section
variable {P:Program}{w:World}{K:PySem.W.Frag}{mg:Str→Option Value}{base:Heap}
structure dI (P:Program) (w:World) (K:PySem.W.Frag) (mg:Str→Option Value) (base:Heap) (CX:HX) (k:Nat) (C:Addr) (m:Str) where
 f:Addr
 fd:FuncData
 ps:List Str
 sp:Sp
 ds:List Value
 rE:List V
 c:De K C
 hm:Meth K C m f
 F:aG P w K mg base CX k f fd ps sp
 hb:Binds K fd ps ds
 hd:Vals rE ds
end
section
variable {X:Cx}{CX:HX}{k:Nat}{E:XK}{m:Str}{pos apos:Pos}{e o:Expr}{es:List Expr}{ta:TE}{t:TA}
def Wn (X:Cx) (CX:HX) (k:Nat) (m:Str) (E:XK) (ta:TE) (t:TA):TE:=fun σ H Q=>ta σ H fun x H1=>∃ (a C dx:Addr) (fs:List (Str × V)) (M:dI X.prog X.w X.K X.mg X.base CX k C m),x=.ref a∧H1 a=some (.ins C dx fs)∧fs.lookup m=none ∧
 t σ H1 fun vs H2=>M.sp (x::(vs++M.rE)) H2 Q E
theorem yD {pl:Sem Bool} (hr:fD k X.A) (hx:Passes CX X E) (he:PE X o ta) (ha:PA X (e::es) t)
   (hst:starEach (e::es) X.env=(false,eval e X.env)::starEach es X.env:=by rfl) (hpl:(backTo pos (starEach es X.env)).any (·.1)=false:=by rfl)
   (ht:eval (.Call (.Attribute o m apos) (e::es) [] pos) X.env=(do
     let ov ← eval o X.env
     standAt apos.atName
     let (f,first) ← holding [ov] (getMethod ov m pl)
     callWith pos f first (backTo pos (starEach (e::es) X.env)) (backToKw pos (keywordEach [] X.env))):=by rfl) :
   PE X (.Call (.Attribute o m apos) (e::es) [] pos) (Wn X CX k m E ta t):=by
 intro pins s σ H Q I h
 refine PySem.W.methodCall_KW (pl:=pl) (d9 (he pins s σ H _ I h) fun u s1 ⟨x,H1,I1,rx,a,C,dx,fs,M,ex,ea,l,q⟩=>?_) ht
 subst ex
 obtain rfl:u=Value.ref a:=rx
 refine vy I1 ea M.c M.hm l ?_
 refine PySem.W.callWith_K (first:=[.ref a]) (h₀:=X.base) I.ok.mod.Zi M.hm.kp (d9 (ha pos pins s1 σ H1 _ I1 q) fun us s2 ⟨vs,H2,I2,r,q2⟩=>⟨I2.Dd,?_⟩) hst hpl
 exact Kf (us:=.ref a::us) (vs:=.ref a::vs) M.F hr M.hb M.hd hx I2 (.cons rfl r) q2
theorem Ae {pl:Sem Bool} (hr:fD k X.A) (hx:Passes CX X E) (he:PE X o ta)
   (ht:eval (.Call (.Attribute o m apos) [] [] pos) X.env=(do
     let ov ← eval o X.env
     standAt apos.atName
     let (f,first) ← holding [ov] (getMethod ov m pl)
     callWith pos f first (backTo pos (starEach [] X.env)) (backToKw pos (keywordEach [] X.env))):=by rfl) :
   PE X (.Call (.Attribute o m apos) [] [] pos) (Wn X CX k m E ta Qh):=by
 intro pins s σ H Q I h
 refine PySem.W.methodCall_KW (pl:=pl) (d9 (he pins s σ H _ I h) fun u s1 ⟨x,H1,I1,rx,a,C,dx,fs,M,ex,ea,l,q⟩=>?_) ht
 subst ex
 obtain rfl:u=Value.ref a:=rx
 refine vy I1 ea M.c M.hm l ?_
 exact PySem.W.callWith_K0 (first:=[.ref a]) I1.Dd M.hm.kp (Kf (us:=[.ref a]) (vs:=[.ref a]) M.F hr M.hb M.hd hx I1 (.cons rfl .nil) q)
structure Tg (K:PySem.W.Frag) (C:Addr) (m:Str) (f:Addr):Prop where
 rd:PySem.W.readsIn K C (.type "type")=true
 at_:PySem.W.findCls K (.ref C) (.type "type") m=some (.val (.ref f))
 sp:PySem.W.specialIn K (.ref C) "__getattribute__" = some (some (.builtin "type.__getattribute__"))
 kp:PySem.W.keepIn K (.ref f)=true
theorem rZ {pl:Sem Bool}{C f:Addr}{fd:FuncData}{ps:List Str}{sp:Sp}{x:Str}{np:Pos} (c:Tg X.K C m f) (F:aG X.prog X.w X.K X.mg X.base CX k f fd ps sp) (hr:fD k X.A) (hg:Gl X x) (hmg:X.mg x=some (.ref C)) (hb:Binds X.K fd ps []) (hx:Passes CX X E)
   (ha:PA X (e::es) t) (hd:(x == ("__debug__":Str))=false:=by decide)
   (hst:starEach (e::es) X.env=(false,eval e X.env)::starEach es X.env:=by rfl) (hpl:(backTo pos (starEach es X.env)).any (·.1)=false:=by rfl)
   (ht:eval (.Call (.Attribute (.Name x np) m apos) (e::es) [] pos) X.env=(do
     let ov ← eval (.Name x np) X.env
     standAt apos.atName
     let (f,first) ← holding [ov] (getMethod ov m pl)
     callWith pos f first (backTo pos (starEach (e::es) X.env)) (backToKw pos (keywordEach [] X.env))):=by rfl) :
   PE X (.Call (.Attribute (.Name x np) m apos) (e::es) [] pos) (VN sp [] E t):=by
 intro pins s σ H Q I h
 refine PySem.W.methodCall_KW (pl:=pl) (qu I hg hmg ?_ hd) ht
 refine PySem.W.method_cls I.Dd c.sp (PySem.W.cls_value (s:=s) I.Dd c.rd c.at_ rfl ?_)
 refine PySem.W.callWith_K (first:=[]) (h₀:=X.base) I.ok.mod.Zi c.kp (d9 (ha pos pins _ σ H _ (I.tok _) h) fun us s2 ⟨vs,H2,I2,r,q2⟩=>⟨I2.Dd,?_⟩) hst hpl
 exact Kf (us:=us) (vs:=vs) F hr hb .nil hx I2 r q2
end
end L2
namespace L2
open PySem PySem.Spec PyProof.Rows
end L2
namespace L2
open PySem PySem.Spec PyProof.Rows PySem.Calls
section
variable {X:Cx}
end
theorem lk1 {a:Str}{v:V}{r:List (Str × V)}:((a,v)::r).lookup a=some v:=by rw [List.lookup_cons,beq_self_eq_true]
theorem lk2 {a b:Str}{v w:V} (h:(b == a)=false) {r:List (Str × V)}:((a,v)::(b,w)::r).lookup b=some w:=by rw [List.lookup_cons,h];exact lk1
structure Thing (K:PySem.W.Frag) (H:Hp) (x:V) where
 t:Value
 bi:Bool
 bb:Bool
 bs:Bool
 ty:YW K H x t
 ki:PySem.W.kitOne K t (.type "int")=some bi
 kb:PySem.W.kitOne K t (.type "bool")=some bb
 ks:PySem.W.kitOne K t (.type "str")=some bs
 hi:(bi && !bb)=true→∃ n,x=.int n
 hs:bs=true→∃ z,x=.str z
 ni:∀ n,x=.int n→(bi && !bb)=true
 ns:∀ z,x=.str z→bs=true
 YX:bb=true→∃ b,x=.bl b
 nbl:∀ b,x=.bl b→bb=true
theorem aA.pH {K:PySem.W.Frag}{H H':Hp}{a:Addr}{xs:List V} (e:aA H H') (h:dH K H a xs):dH K H' a xs:=by
 rcases h with h | h
 · exact .inl (h.imp (fun k=>e _ _ k) (fun⟨o,k⟩=>⟨o,e _ _ k⟩))
 · exact .inr h
theorem aA.atE {K:PySem.W.Frag}{H H':Hp}{x:V}{t:Value} (e:aA H H') (h:YW K H x t):YW K H' x t:=by
 cases h with
 | old h=>exact .old (e.ty h)
 | exc h c=>exact .exc (e _ _ h) c
 | acf h c=>exact .acf (e _ _ h) c
 | tpl h=>exact .tpl (e.pH h)
def Thing.same {K:PySem.W.Frag}{H H':Hp}{x:V} (h:Thing K H x) (e:aA H H'):Thing K H' x:=⟨h.t,h.bi,h.bb,h.bs,e.atE h.ty,h.ki,h.kb,h.ks,h.hi,h.hs,h.ni,h.ns,h.YX,h.nbl⟩
theorem aA.upd {H H':Hp}{p:Addr}{o:HO} (e:aA H H') (h:H p=none∨H p=some o):aA H (L2.upd H' p o):=fun b u q=>by
 by_cases z:b=p
 · subst z
   rcases h with h | h
   · rw [h] at q;cases q
   · rw [h] at q;rw [zB];exact q
 · rw [zI z];exact e b u q
end L2
namespace L2
open PySem PySem.Spec PyProof.Rows
end L2
namespace L2
open PySem PySem.Spec PyProof.Rows PySem.Calls
theorem Af {X:Cx}{e:Expr}{te te':TE} (h:PE X e te') (h2:te'=te):PE X e te:=h2 ▸ h
def ach (K:PySem.W.Frag) (a:Addr) (D:List (Str × Bool)):Prop :=
 (a == sysModules)=false∧∃ o es ep,K.lookup a=some o∧o.ExactDict∧o.data=.dict es ep∧KTD.Rows (fun (b:Bool) (v:Value)=>v=.bool b) es.toList D
theorem ZQ {K:PySem.W.Frag}{a:Addr}{oc:Value}{od:Option Addr}{es:Array DictEntry}{ep:Nat}{sl:Array (Option Value)}{D:List (Str × Bool)} (h:K.lookup a=some ⟨oc,od,.dict es ep,sl⟩) (hs:(a == sysModules)=false) (hc:oc=.type "dict") (hd:od=none) (hsl:sl=#[]) (hr:KTD.Rows (fun (b:Bool) (v:Value)=>v=.bool b) es.toList D):ach K a D:=by
 subst hc hd hsl
 exact⟨hs,_,es,ep,h,⟨rfl,rfl,rfl⟩,rfl,hr⟩
def Fw (D:List (Str × Bool)) (z:Str):V:=match D.lookup z with
 | some b=>.bl b
 | none=>.non
theorem vA (z:Str):∀ D:List (Str × Bool),KTD.datumAt z (D.map fun p=>(p.1,KTD.Dat.flat (.bool p.2)))=(D.lookup z).map fun b=>KTD.Dat.flat (.bool b)
 | []=>rfl
 | (x,b)::D=>by
   show (if decide (z=x)=true then some (KTD.Dat.flat (.bool b)) else KTD.datumAt z (D.map fun p=>(p.1,KTD.Dat.flat (.bool p.2))))=_
   rw [vA z D,List.lookup_cons]
   by_cases h:z=x
   · subst h;rw [if_pos (decide_eq_true rfl),beq_self_eq_true];rfl
   · rw [if_neg (by simpa using h),beq_eq_false_iff_ne.mpr h]
section
variable {X:Cx}
theorem ZR {x:Str}{a:Addr}{D:List (Str × Bool)}{e:Expr}{te:TE}{np apos cpos:Pos} (hg:Gl X x) (hm:X.mg x=some (.ref a)) (hT:ach X.K a D) (he:PE X e te) (m:M1 X (.Name x np) "get" apos e cpos) (hdb:(x == ("__debug__":Str))=false:=by decide) :
   PE X (.Call (.Attribute (.Name x np) "get" apos) [e] [] cpos) (fun σ H Q=>te σ H fun v H1=>∃ z,v=.str z∧Q (Fw D z) H1):=by
 intro pins s σ H Q I h
 obtain⟨lo,o,es,ep,lk,hc,hd,hr⟩:=hT
 have T0:KTD.TextTab X.base a (D.map fun p=>(p.1,KTD.Dat.flat (.bool p.2))) :=
   ⟨lo,o,es,ep,I.ok.mod.Zi _ _ lk,hc,hd,hr.mono (f:=fun b=>KTD.Dat.flat (.bool b)) fun d v e=>by subst e;exact PyProof.V.Flat.bool d⟩
 have T:∀ {pins:List (Addr × Obj)}{σ:St}{H:Hp}{s:Shared},Inv X pins σ H s→KTD.Here X.base s.heap a (D.map fun p=>(p.1,KTD.Dat.flat (.bool p.2))):=fun I=>⟨T0,I.bk⟩
 refine wpAny_Call_method m.base m.few m.line PySem.F.plainAttrs_dict PySem.F.slot_dict_get PySem.F.type_dict_get (qu I hg hm ?_ hdb)
 refine⟨(T I).typeIs,(T I).noDict,?_⟩
 rw [m.trees]
 refine Calls.callWith_builtin rfl (Calls.evalArgs_plain (Calls.spliced_cons (d9 (he pins s σ H _ I h) fun iv s2 ⟨y,H2,I2,ry,z,ez,q2⟩=>Calls.spliced_nil ?_)))
 subst ez
 obtain⟨t,rfl⟩:=ry
 refine call_meetsIn PySem.F.slot_dict_get (T I2).typeIs PySem.F.entry_dict_get (PySem.F.args_dict_get_2 _ _) (KTD.meets_get1 (h₀:=X.base)) ⟨T I2,fun d v ha hv=>?_,fun hn=>?_⟩
 · rw [vA] at ha
   cases hl:D.lookup z with
   | none=>rw [hl] at ha;cases ha
   | some b =>
     rw [hl] at ha
     cases ha
     have hv':v=.bool b:=PyProof.V.Flat.bool_inv hv
     subst hv'
     refine⟨.bl b,H2,I2.tok _,rfl,?_⟩
     unfold Fw at q2
     rw [hl] at q2
     exact q2
 · rw [vA] at hn
   cases hl:D.lookup z with
   | some b=>rw [hl] at hn;cases hn
   | none =>
     refine⟨.non,H2,I2.tok _,rfl,?_⟩
     unfold Fw at q2
     rw [hl] at q2
     exact q2
theorem Nt:∀ {xs:List V}{us:List Value},Vals xs us→xs.all fH=true→∀ {x:V} (j:Nat) (h:j<us.toArray.size),V1 x us.toArray[j]=JB (xs.getD j .non) x:=by
 intro xs us r f x j h
 obtain⟨y,hy,ry⟩:=Kv r h
 obtain⟨a,b⟩:=w6 f hy
 rw [b]
 exact Qk ry a
def abb (x:V) (xs:List V) (j:Nat):Prop:=∃ y,xs[j]? = some y∧JB y x=true∧∀ (m:Nat) z,m<j→xs[m]? = some z→JB z x=false
theorem JP:MtM X "list.index" (fun x vs H Q=>∃ p xs y j,x=.ref p∧vs=[y]∧bR X.K H p xs∧xs.all fH=true∧fH y=true∧abb y xs j∧Q (.int (j:Nat)) H):=by
 intro pins s σ H x vs v us Q I rx rv h
 obtain⟨p,xs,y,j,rfl,rfl,hq,fs,fy,⟨y',hj,hy,hno⟩,q⟩:=h
 cases rx
 obtain⟨u,rfl,ru⟩:=rv.one
 obtain⟨its,r,pl,hz⟩:=I.list hq
 obtain⟨⟨cls,dd,data,sl⟩,ho,hc,n,hd⟩:=pl.isList
 simp only at hc hd
 subst hc hd
 have hl:=r.length
 have hlt:j<xs.length:=(List.getElem?_eq_some_iff.mp hj).1
 have hn:=EY
 refine call_meets PySem.F.slot_list_index ⟨_,ho,rfl⟩ PySem.F.entry_list_index (PySem.F.args_list_index_2 _ _)
   (SeqAt.list_indexAt p its.toArray n dd sl u (V1 y) j (by rw [List.size_toArray];omega) (by omega) ?_ ?_) ⟨ho,fun w hw=>wU ru fy r fs w (by simpa using hw),⟨.int j,H,I.tok _,⟨_,rfl⟩,q⟩⟩
 · rw [Nt r fs,(w6 fs hj).2];exact hy
 · intro m hm hmj
   rw [Nt r fs]
   have hm':m<xs.length:=by omega
   have e:=List.getElem?_eq_getElem hm'
   rw [(w6 fs e).2]
   exact hno m _ hmj e
end
end L2
namespace L2
open PySem PySem.Spec PyProof.Rows PySem.Calls
section
variable {prog:Program}{w:World}{A:Around}{R:Result→Shared→Prop}{I:Addr}{fp wr:List Addr}{G:Array GenState→Array GenState→Prop}{n:Nat}{P:Nat→Value→Prop}{St:Nat→Shared→Prop}
end
section
variable {prog:Program}{w:World}{A:Around}{E:Value→Shared→Prop}{s:Shared}
end
section
variable {X:Cx}
end
end L2
namespace L2
open PySem PySem.Spec PyProof.Rows PySem.Calls
section
variable {X:Cx}
end
theorem Wo {K:PySem.W.Frag}{a:Addr}{xs:List V}{te:TE}{σ:St}{H:Hp}{Q:VK} (hz:xs.length≤sizeLine) (W:Nat→List V→Hp→Prop) (h0:W 0 [] H) (hq:∀ i ys H,W i ys H→dH K H a xs)
   (hs:∀ i x ys H,xs[i]? = some x→ys.length=i→W i ys H→te (some x::σ) H fun v H'=>W (i+1) (ys++[v]) H')
   (hd:∀ ys H,ys.length=xs.length→W xs.length ys H→∀ p,H p=none→Q (.ref p) (upd H p (.lst ys))):Wc (Itt K a) te σ H Q:=by
 refine⟨xs.length,W,hz,h0,fun i ys H hi hl hw=>?_⟩
 have q:=hq i ys H hw
 by_cases hlt:i<xs.length
 · refine .inr ⟨⟨xs,xs[i],q,by simp [hlt]⟩,hlt,fun v H' y=>?_⟩
   obtain⟨e,y⟩:=y
   subst e
   exact hs i v ys _ (y xs q) hl hw
 · have e:i=xs.length:=by omega
   subst e
   exact .inl ⟨⟨xs,q,Nat.le_refl _⟩,hd ys H hl hw⟩
end L2
namespace HT
open PySem PySem.Spec PyProof.Rows PySem.Calls
section
variable {prog:Program}{w:World}{A:Around}{E:Value→Shared→Prop}{s:Shared}
theorem uD {t sl:Addr}{items:Array Value}{vl vu:Value}{lo hi:Option Int}{Q:Value→Shared→Prop} (ht:IsTup s.heap t items) (hs:s.heap.IsSliceOf sl vl vu .none) (pl:IsPart vl lo) (pu:IsPart vu hi)
   (hw:gq items.size 0 lo=0∧gq items.size items.size hi=items.size) (h:Q (.ref t) s):wpAny (model prog w) A (getItem (.ref t) (.ref sl)) Q E s:=by
 obtain⟨os,hos,hcs,hds⟩:=id hs
 have hTs:s.TypeIs (.ref sl) "slice":=⟨os,hos,hcs⟩
 unfold getItem
 try with_reducible refine wpAny_holding ?_
 first | refine wpAny_bind (wpAny_pure ?_) | skip
 refine wpAny_bind (wpAny_sequenceKey ht.typeIs (by decide) ?_)
 refine wpAny_bind (wpAny_callSpecial?_slot (name:=‹"__getitem__"›) ht.typeIs PyProof.Rows.slot_tuple_getitem
   (wpAny_call_entry PyProof.Rows.slot_tuple_getitem ht.typeIs entry_tuple_getitem ?_ (args_tuple_getitem _ _)))
 show wpAny _ _ (Builtin.Tuple.tupleItemsOf (.ref t) >>= _) _ _ s
 refine wpAny_bind (tupleItemsOf_ ht ?_)
 refine wpAny_bind (wpAny_typeOf hTs ?_)
 rw [if_pos (by decide)]
 refine wpAny_bind (pX hs pl pu ?_)
 have atF:((((gq items.size 0 lo:Nat):Int) == 0 && (1:Int) == 1 && (gq items.size items.size hi - gq items.size 0 lo) == items.size)=true):=by
   rw [hw.1,hw.2];simp
 show wpAny _ _ (if (((gq items.size 0 lo:Nat):Int) == 0 && (1:Int) == 1 && (gq items.size items.size hi - gq items.size 0 lo) == items.size)=true then _ else _) _ _ s
 rw [if_pos atF]
 unfold Builtin.Tuple.tupleIsExact
 refine wpAny_bind (wpAny_bind (wpAny_typeOf ht.typeIs (wpAny_pure ?_)))
 rw [if_pos (by decide)]
 refine wpAny_bind (wpAny_rule ?_)
 first
   | exact wpAny_pure ⟨_,rfl,wpAny_pure h⟩
   | exact wpAny_bind (wpAny_pure (wpAny_pure ⟨_,rfl,wpAny_pure h⟩))
   | exact wpAny_bind (wpAny_pure (wpAny_bind (wpAny_pure (wpAny_pure ⟨_,rfl,wpAny_pure h⟩))))
end
end HT
namespace L2
open PySem PySem.Spec PyProof.Rows PySem.Calls
section
variable {X:Cx}
end
end L2
namespace L2
open PySem PySem.Spec PyProof.Rows PySem.Calls
def Ie (X:Cx) (ifs:List Expr) (t:TT):Prop :=
 ∀ (pins:List (Addr × Obj)) (s:Shared) (σ:St) (H:Hp) (Q:Bool→Hp→Prop),Inv X pins σ H s→t σ H Q →
   wpAny (model X.prog X.w) X.A (forIn ifs true fun c r=>if r=true then do let ok ← isTrue c X.env (eval c X.env);pure (ForInStep.yield ok) else pure (ForInStep.yield r)) (TP X pins σ Q) X.xe s
def abd:TT:=fun _ H Q=>Q true H
theorem Fx {X:Cx}:Ie X [] abd:=fun pins s σ H Q I h=>wpAny_pure ⟨H,I,h⟩
theorem Nu {X:Cx}{c:Expr}{t:TT} (hc:PT X c t):Ie X [c] t:=fun pins s σ H Q I h=>by
 rw [List.forIn_cons]
 refine wpAny_bind (wpAny_bind (d9 (hc pins s σ H Q I h) fun b s1 q=>wpAny_pure ?_))
 exact wpAny_pure q
theorem xf {prog:Program}{w:World}{A:Around}{R:Result→Shared→Prop}{s:Shared}{elt target iter:Expr}{ifs:List Expr}{scope:Scope}{pos:Pos}{it acc:Value}{env:Env} (I:Nat→Shared→Prop)
   (turn:∀ n s,I n s→wpAny (model prog w) A (pyNext it) (fun r s₁=>match r with
     | none=>R (.ok .next) s₁
     | some v=>wpAny (model prog w) A (letOwnedTupleGo target it v) (fun _ s₂=>wpAny (model prog w) A (assign target env v) (fun _ s₃ =>
         wpAny (model prog w) A (forIn ifs true fun c r=>if r=true then do let ok ← isTrue c env (eval c env);pure (ForInStep.yield ok) else pure (ForInStep.yield r)) (fun ok s₄ =>
           if ok=true then wpAny (model prog w) A (eval elt env) (fun x s₅ =>
             wpAny (model prog w) A (call (.builtin "list.append") [acc,x]) (fun _ s₆=>∃ m,m<n∧I m s₆) (notedBy (model prog w) A env fun e s'=>R (.error e) s') s₅)
             (notedBy (model prog w) A env fun e s'=>R (.error e) s') s₄ else ∃ m,m<n∧I m s₄)
           (notedBy (model prog w) A env fun e s'=>R (.error e) s') s₃) (notedBy (model prog w) A env fun e s'=>R (.error e) s') s₂) (notedBy (model prog w) A env fun e s'=>R (.error e) s') s₁)
     (notedBy (model prog w) A env fun e s'=>R (.error e) s') s)
   (n:Nat) (h:I n s):codeAny (model prog w) A (.compLoop (.ListComp elt [⟨target,iter,ifs,0⟩] scope pos) 0 it acc env) R s:=by
 refine codeAny_loop rfl I (fun n s hI=>?_) n h
 show wpAny _ A ((compTurn (.ListComp elt [⟨target,iter,ifs,0⟩] scope pos) 0 it acc env).onRaise (fun x=>do noteFrame x env;theTreesLotGoes x)) _ _ s
 refine wpAny_noted ?_
 rw [compTurn_list]
 refine wpAny_bind (wpAny_standAt (wpAny_bind (wpAny_mono (turn n s hI) (fun r s₁ h₁=>?_) fun _ _ h'=>h')))
 cases r with
 | none=>exact wpAny_pure h₁
 | some v =>
   refine wpAny_bind (wpAny_mono h₁ (fun _ s₂ h₂=>wpAny_bind (wpAny_mono h₂ (fun _ s₃ h₃=>?_) fun _ _ h'=>h')) fun _ _ h'=>h')
   refine wpAny_bind (wpAny_mono h₃ (fun ok s₄ h₄=>?_) fun _ _ h'=>h')
   cases ok with
   | false=>exact wpAny_pure ⟨rfl,h₄⟩
   | true=>exact wpAny_bind (wpAny_bind (wpAny_mono h₄ (fun x s₅ h₅=>wpAny_bind (wpAny_mono h₅ (fun _ s₆ h₆=>wpAny_pure (wpAny_pure ⟨rfl,h₆⟩)) fun _ _ h'=>h')) fun _ _ h'=>h'))
def fL (X:Cx) (scope:Scope) (C:Addr) (x y:Str) (M:List Str) (s₂:Shared) (H₂:Hp) (fp:List Addr):Cx :=
 { X with N:=x::y::M,s₀:=s₂,H₀:=H₂,env:=compEnvC scope (iQ X.env scope.names []) C X.env,outer:=X.stack,ex:=fp,fn:=fun _=>false,pn:=[],xe:=fun _ _=>False }
structure um (X:Cx) (scope:Scope) (x y:Str) (M:List Str):Prop where
 base:cZ X scope x M
 agh:scope.names.lookup y=some .local
 nd2:(x::y::M).Nodup
theorem vB {X:Cx}{scope:Scope}{x y:Str}{M:List Str} (h:cZ X scope x M) (h1:scope.names.lookup y=some .local) (h2:(x::y::M).Nodup):um X scope x y M:=⟨h,h1,h2⟩
section
variable {X:Cx}{scope:Scope}{x y:Str}{M:List Str}{pins:List (Addr × Obj)}{σ:St}{H₂:Hp}{s₂:Shared}{elt iter tg:Expr}{ifs:List Expr}{pos:Pos}{te:TE}{wi:TI}{g:TG}{tc:TT}
theorem Up (K:um X scope x y M) (I:Inv X pins σ H₂ s₂) {fp:List Addr} (hf:∀ b∈fp,mK X pins H₂ b) (hfl:∀ b∈fp,b<s₂.heap.objs.size) {C:Addr} (hC:s₂.heap.objs.size≤C) {h₁:Heap}{t:Nat}{m:Str→Option Value} (hn:h₁.Ns C m)
   (hk:∀ b o,s₂.heap.get? b=some o→h₁.get? b=some o):Inv (fL X scope C x y M s₂ H₂ fp) [] (none::none::σ) H₂ { s₂ with heap:=h₁,toks:=t }:=by
 have I1:=Fj (t:=t) K.base I hf hfl hC hn hk
 have ok:(fL X scope C x y M s₂ H₂ fp).Ok:=by
   obtain⟨a1,a2,a3,a4,a5,a6,a7,a8,a9,a10,a11,a12,a13,a14,a15,a16,a17,a18⟩:=I1.ok
   exact⟨a1,a2,a3,a4,a5,a6,a7,a8,a9,a10,a11,a12,a13,a14,a15,a16,a17,a18⟩
 obtain⟨m',ns',lo⟩:=I1.loc
 refine⟨ok,I1.os,I1.bare,I1.base,⟨m',ns',fun i z v e1 e2 e3=>?_⟩,I1.cell,I1.free,I1.lA,I1.pin,I1.hok,?_⟩
 · match i,e1,e2 with
   | 0,_,e2=>cases e2
   | 1,_,e2=>cases e2
   | j+2,e1,e2=>exact lo (j+1) z v e1 e2 e3
 · have:=I1.len
   show (none::none::σ).length=(x::y::M).length
   have h2:(none::σ).length=(x::M).length:=this
   simp only [List.length_cons] at h2 ⊢
   omega
def acj (wi:TI) (g:TG) (tc:TT) (te:TE):TE:=fun σ H Q=>wi σ H fun J H1=>∃ (n:Nat) (W:Nat→List V→Hp→Prop),n≤sizeLine∧W 0 [] H1∧∀ i ys H,i≤n→ys.length≤i→W i ys H →
 (J.stop i H∧∀ p,H p=none→Q (.ref p) (upd H p (.lst ys)))∨(J.go i H∧i<n∧∀ x H',J.PJ i H x H'→∀ u v,g x (u::v::σ) H' fun ρ H2=>(∃ u' v',ρ=u'::v'::σ)∧tc ρ H2 fun c H3=>if c=true then te ρ H3 fun z H4=>W (i+1) (ys++[z]) H4 else W (i+1) ys H3)
theorem Nv (K:um X scope x y M) (hc:X.calm=true) (I:Inv X pins σ H₂ s₂) (hg:∀ (C:Addr) (s₂:Shared) (H₂:Hp) (fp:List Addr),PG (fL X scope C x y M s₂ H₂ fp) tg g) (ht:∀ (C:Addr) (s₂:Shared) (H₂:Hp) (fp:List Addr),Ie (fL X scope C x y M s₂ H₂ fp) ifs tc) (he:∀ (C:Addr) (s₂:Shared) (H₂:Hp) (fp:List Addr),PE (fL X scope C x y M s₂ H₂ fp) elt te)
   {it:Addr}{fp:List Addr}{tn:Nat→Heap→Prop}{J:It} (T:Turn X.prog X.w X.K tg J fp it tn) (st:tn 0 s₂.heap) (hf:∀ b∈fp,mK X pins H₂ b) {n:Nat} (hsz:n≤sizeLine) {W:Nat→List V→Hp→Prop}{F:List V→Hp→Prop}
   (w0:W 0 [] H₂) (turn:∀ i ys H,i≤n→ys.length≤i→W i ys H→(J.stop i H∧F ys H)∨(J.go i H∧i<n∧∀ x H',J.PJ i H x H'→∀ u v,g x (u::v::σ) H' fun ρ H2=>(∃ u' v',ρ=u'::v'::σ)∧tc ρ H2 fun c H3=>if c=true then te ρ H3 fun z H4=>W (i+1) (ys++[z]) H4 else W (i+1) ys H3))
   {E:Value→Shared→Prop}{RR:Value→Addr→Result→Shared→Prop}
   (hRR:∀ (D C:Addr) (s':Shared) (H':Hp) (ys:List V) (m:Str→Option Value),Inv X pins σ (upd H' D (.lst ys)) s'→H' D=none→mK X pins (upd H' D (.lst ys)) C→s'.heap.Ns C m→F ys H'→RR (.ref D) C (.ok .next) s') :
   wpAny (model X.prog X.w) X.A (newList []) (fun acc s₃=>wpAny (model X.prog X.w) X.A (newFunctionEnv scope X.env.globals (iQ X.env scope.names []) [] X.env.qual none .none (some X.env)) (fun cenv s₄ =>
     codeAny (model X.prog X.w) X.A (.compStart (.ListComp elt [⟨tg,iter,ifs,0⟩] scope pos) 0 (.ref it) acc { cenv with scope:=relabel scope X.env }) (RR acc cenv.locals) s₄) E s₃) E s₂:=by
 refine wpAny_newObj_type (wpAny_newFunctionEnv K.base.cell (by intro y hy;simp at hy) (fun h₁ hns₁ hsb₁=>?_) K.base.kind)
 dsimp only at hns₁ hsb₁ ⊢
 generalize hH2:s₂.heap.push { cls:=.type "list",dict:=none,data:=.seq ([]:List Value).toArray } = H2 at hns₁ hsb₁ ⊢
 have hC:H2.objs.size=s₂.heap.objs.size+1:=by rw [← hH2,Heap.size_push]
 have hDC:s₂.heap.objs.size≠H2.objs.size:=by rw [hC];exact Nat.ne_of_lt (Nat.lt_succ_self _)
 have below:∀ b,b<s₂.heap.objs.size→b≠H2.objs.size∧b≠s₂.heap.objs.size:=fun b hb=>⟨by rw [hC];exact Nat.ne_of_lt (Nat.lt_succ_of_lt hb),Nat.ne_of_lt hb⟩
 have hfl:∀ b∈fp,b<s₂.heap.objs.size:=fun b hb=>by obtain⟨o,e,_⟩:=T.obj _ _ st b hb;exact Heap.lt_size e
 have old:∀ b o,s₂.heap.get? b=some o→h₁.get? b=some o:=fun b o e=>hsb₁.extBut b o (below b (Heap.lt_size e)).1 (Heap.get?_push_of_some _ (hH2 ▸ Heap.get?_push_of_some _ e))
 have hacc:h₁.get? s₂.heap.objs.size=some { cls:=.type "list",data:=.seq ([]:List Value).toArray 0 }:=hsb₁.extBut _ _ hDC (Heap.get?_push_of_some _ (hH2 ▸ Heap.get?_push_size _ rfl))
 generalize hCC:H2.objs.size=C at *
 generalize uY:s₂.heap.objs.size=D at *
 have hCle:s₂.heap.objs.size≤C:=by rw [uY,hC];exact Nat.le_succ _
 have st₁:tn 0 h₁:=T.keep _ _ _ st fun b _ o e=>old b o e
 have I₁:=Up (t:=s₂.toks+([]:List (Str × Value)).length) K I hf (fun b hb=>by rw [uY];exact hfl b hb) hCle hns₁ old
 generalize hX':fL X scope C x y M s₂ H₂ fp=X' at I₁
 have eX:X'.prog=X.prog∧X'.w=X.w∧X'.K=X.K∧X'.calm=true∧X'.A=X.A∧X'.ex=fp∧X'.env=compEnvC scope (iQ X.env scope.names []) C X.env∧X'.s₀=s₂∧X'.pn=[]:=by
   subst hX';exact⟨rfl,rfl,rfl,hc,rfl,rfl,rfl,rfl,rfl⟩
 obtain⟨eP,ew,eK,ec,eA,eex,Di,es0,V9⟩:=eX
 have eL:X'.env.locals=C:=by rw [Di];rfl
 have cells':∀ y c,X'.env.cells.lookup y=some c→X.env.cells.lookup y=some c:=fun y c e=>by rw [Di] at e;exact cZ.uX e
 have efs:X'.fs=frs X.stack:=by subst hX';rfl
 have wX:∀ b∈X'.fs,b=X.env.locals∨b∈X.fs:=fun b hb=>List.mem_cons.mp (I.zy b (by rw [← efs];exact hb))
 have Fo:∀ {pn:List (Addr × Obj)}{H':Hp},(∀ p∈pn,p.1=D)→(∀ b∈fp,H' b=none)→∀ b∈fp,mK X' pn H' b:=fun {pn H'} hp hn b hb=>by
   refine⟨hn b hb,?_,fun z=>?_,.inl (by rw [eex];exact hb),fun y c e=>(hf b hb).2.2.2.2.1 y c (cells' y c e),fun p hq=>?_⟩
   · rw [eL];exact (below b (hfl b hb)).1
   · rcases wX b z with q | q
     · exact (hf b hb).2.1 q
     · exact (hf b hb).2.2.1 q
   · rw [V9,List.nil_append] at hq
     rw [hp p hq];exact Ne.symm (below b (hfl b hb)).2
 have Dfp:D∉fp:=fun z=>Nat.lt_irrefl _ (hfl D z)
 have Ng:X.env.locals<D:=by have:=I.lt;rw [uY] at this;exact this
 have Wa:∀ b∈X.fs,b<D:=fun b hb=>Nat.lt_of_not_le fun z=>I.Zk (a:=b) (by rw [uY];exact z) hb
 have Nh:∀ {b:Addr}{pn:List (Addr × Obj)}{H':Hp},D≤b→b≠C→H' b=none→(∀ p∈pn,p.1≠b)→mK X' pn H' b:=fun {b pn H'} hb hbC hn hp=>by
   refine⟨hn,by rw [eL];exact hbC,fun z=>?_,.inr (by rw [es0,uY];exact hb),fun y c e=>?_,fun p hq=>?_⟩
   · rcases wX b z with q | q
     · rw [q] at hb;exact absurd (Nat.lt_of_lt_of_le Ng hb) (Nat.lt_irrefl _)
     · exact absurd (Nat.lt_of_lt_of_le (Wa b q) hb) (Nat.lt_irrefl _)
   · obtain⟨v,o,ho,_⟩:=I.cell y c (cells' y c e)
     have:=Heap.lt_size ho
     rw [uY] at this
     exact Nat.ne_of_lt (Nat.lt_of_lt_of_le this hb)
   · rw [V9,List.nil_append] at hq
     exact hp p hq
 have outer:∀ {σ':St}{H':Hp}{s':Shared}{pn:List (Addr × Obj)},Inv X' pn σ' H' s'→Inv X pins σ H' s':=fun {σ' H' s' pn} J'=>by
   subst hX'
   refine I.call' (ch:=fp) J'.os J'.base J'.hok J'.bare fun b hb=>?_
   obtain⟨f0,f1,f2,f3,f4,f5⟩:=hf b hb
   exact⟨f3,f1,f4,f5⟩
 have Ci:∀ {b:Addr}{H':Hp},D≤b→H' b=none→mK X pins H' b:=fun {b H'} hb hn=>by
   have q:=I.MK (H':=H') (b:=b) (by rw [uY];exact hb) hn
   exact q
 have loop:∀ s₃:Shared,s₃={ s₂ with heap:=h₁,toks:=s₂.toks+([]:List (Str × Value)).length } →
     codeAny (model X.prog X.w) X.A (.compLoop (.ListComp elt [⟨tg,iter,ifs,0⟩] scope pos) 0 (.ref it) (.ref D) (compEnvC scope (iQ X.env scope.names []) C X.env)) (RR (.ref D) C) s₃:=by
   rintro s₃ rfl
   refine xf (fun k s'=>∃ (i:Nat) (ys:List V) (its:List Value) (σ0 σ1:Option V) (H':Hp),i≤n∧k=n+1 - i∧ys.length≤i∧Inv X' [] (σ0::σ1::σ) H' s'∧tn i s'.heap∧(∀ b∈fp,H' b=none)∧H' D=none∧Vals ys its ∧
     (∃ c,s'.heap.get? D=some { cls:=.type "list",data:=.seq its.toArray c })∧W i ys H') ?_ (n+1) ⟨0,[],[],none,none,H₂,Nat.zero_le _,rfl,Nat.le_refl _,I₁,st₁,fun b hb=>(hf b hb).1,by rw [← uY];exact I.hok.fresh (Nat.le_refl _),.nil,⟨0,hacc⟩,w0⟩
   rintro k s' ⟨i,ys,its,σ0,σ1,H',hi,rfl,hyl,I',st',fr',hD',rv,⟨c,hobj⟩,w'⟩
   rcases turn i ys H' hi hyl w' with ⟨stop,fin⟩ | ⟨go,hlt,step⟩
   · have Fp:Inv X' [(D,{ cls:=.type "list",data:=.seq its.toArray c })] (σ0::σ1::σ) H' s':=I'.gH fun p hp=>by
       obtain rfl:p=(D,{ cls:=.type "list",data:=.seq its.toArray c }):=by simpa using hp
       refine⟨hobj,hD',?_,?_,fun v z=>nomatch z⟩
       · rw [eL];exact hDC
       · intro z
         rcases wX D z with q | q
         · rw [q] at Ng;exact Nat.lt_irrefl _ Ng
         · exact Nat.lt_irrefl _ (Wa D q)
     have q:=T.done X' eP ew eK ec i _ s' (σ0::σ1::σ) H' (notedBy (model X.prog X.w) X.A (compEnvC scope (iQ X.env scope.names []) C X.env) fun e s'=>RR (.ref D) C (.error e) s') Fp (Fo (fun p hp=>by obtain rfl:p=(D,{ cls:=.type "list",data:=.seq its.toArray c }):=(by simpa using hp);rfl) fr') st' stop
     rw [eA] at q
     refine wpAny_mono q (fun r s4 ⟨hr,I4⟩=>?_) fun _ _ z=>z
     subst hr
     obtain⟨e4,n4,_⟩:=I4.pin (D,{ cls:=.type "list",data:=.seq its.toArray c }) (List.mem_append_right _ (by simp))
     have O4:=outer I4
     obtain⟨m4,ns4,_⟩:=I4.loc
     rw [eL] at ns4
     refine hRR D C s4 H' ys m4 (O4.track (Ci (Nat.le_refl _) n4) (Nat.le_trans I.sz (by rw [uY];exact Nat.le_refl _)) ⟨Nat.le_trans hyl (Nat.le_trans hi hsz),its,c,rv,e4⟩) n4 (Ci (by rw [hC];exact Nat.le_succ _) ?_) ns4 fin
     rw [zI (Ne.symm hDC)]
     have:=I4.free
     rw [eL] at this
     exact this
   · have Fp:Inv X' [(D,{ cls:=.type "list",data:=.seq its.toArray c })] (σ0::σ1::σ) H' s':=I'.gH fun p hp=>by
       obtain rfl:p=(D,{ cls:=.type "list",data:=.seq its.toArray c }):=by simpa using hp
       refine⟨hobj,hD',?_,?_,fun v z=>nomatch z⟩
       · rw [eL];exact hDC
       · intro z
         rcases wX D z with q | q
         · rw [q] at Ng;exact Nat.lt_irrefl _ Ng
         · exact Nat.lt_irrefl _ (Wa D q)
     have pd:∀ p∈[(D,({ cls:=.type "list",data:=.seq its.toArray c }:Obj))],p.1=D:=fun p hp=>by obtain rfl:p=(D,{ cls:=.type "list",data:=.seq its.toArray c }):=(by simpa using hp);rfl
     have q:=T.item X' eP ew eK ec i _ s' (σ0::σ1::σ) H' (notedBy (model X.prog X.w) X.A (compEnvC scope (iQ X.env scope.names []) C X.env) fun e s'=>RR (.ref D) C (.error e) s') Fp (Fo pd fr') st' go
     rw [eA] at q
     refine wpAny_mono q (fun r s4 ⟨u,hr,h4⟩=>?_) fun _ _ z=>z
     subst hr
     refine wpAny_mono h4 (fun _ s5 ⟨xv,H5,I5,r5,y5,Kd,fr5⟩=>?_) fun _ _ z=>z
     have I5':=I5.pinned (Fo pd fr5) (T.obj _ _ Kd)
     rw [← Di]
     have g6:=step xv H5 y5 σ0 σ1
     have q6:=(hg C s₂ H₂ fp) (([(D,({ cls:=.type "list",data:=.seq its.toArray c }:Obj))])++qw fp s5.heap) s5 (σ0::σ1::σ) H5 xv u _ (by rw [hX'];exact I5') r5 g6
     rw [hX',eP,ew,eA] at q6
     refine wpAny_mono q6 (fun _ s6 ⟨ρ,H6,I6,⟨u',v',eρ⟩,t6⟩=>?_) (fun _ _ z=>by subst hX';exact (show False from z).elim)
     subst eρ
     have q7:=(ht C s₂ H₂ fp) _ s6 (u'::v'::σ) H6 _ (by rw [hX'];exact I6) t6
     rw [hX',eP,ew,eA] at q7
     refine wpAny_mono q7 (fun ok s7 ⟨H7,I7,w7⟩=>?_) (fun _ _ z=>by subst hX';exact (show False from z).elim)
     have agi:∀ {s8:Shared}{H8:Hp}{pn:List (Addr × Obj)},Inv X' (pn++(([(D,({ cls:=.type "list",data:=.seq its.toArray c }:Obj))])++qw fp s5.heap)) (u'::v'::σ) H8 s8→True:=fun _=>trivial
     cases ok with
     | false =>
       obtain⟨e7,n7,_⟩:=I7.pin (D,{ cls:=.type "list",data:=.seq its.toArray c }) (List.mem_append_right _ (List.mem_append_left _ (by simp)))
       refine⟨n+1 - (i+1),by omega,i+1,ys,its,u',v',H7,hlt,rfl,Nat.le_succ_of_le hyl,I7.gH (Ew:=[]) fun p hp=>absurd hp (by simp),?_,fun b hb=>?_,n7,rv,⟨c,e7⟩,w7⟩
       · refine T.keep _ _ _ Kd fun b hb o e=>?_
         exact (I7.pin (b,o) (List.mem_append_right _ (List.mem_append_right _ (yR hb e)))).1
       · obtain⟨o,e,d⟩:=T.obj _ _ Kd b hb
         exact (I7.pin (b,o) (List.mem_append_right _ (List.mem_append_right _ (yR hb e)))).2.1
     | true =>
       have q8:=(he C s₂ H₂ fp) _ s7 (u'::v'::σ) H7 (fun z PL=>W (i+1) (ys++[z]) PL) (by rw [hX'];exact I7) w7
       rw [hX',eP,ew,eA] at q8
       refine wpAny_mono q8 (fun u8 s8 ⟨v8,H8,I8,r8,w8⟩=>?_) (fun _ _ z=>by subst hX';exact (show False from z).elim)
       obtain⟨e7,n7,_⟩:=I8.pin (D,{ cls:=.type "list",data:=.seq its.toArray c }) (List.mem_append_right _ (List.mem_append_left _ (by simp)))
       refine append_at (hsz:=by rw [List.size_toArray,← rv.length];exact Nat.le_trans hyl (Nat.le_trans hi hsz)) e7 fun h8 sb8 g8=>?_
       have I9:Inv X' [] (u'::v'::σ) H8 { s8 with heap:=h8,toks:=s8.toks }:=(I8.gH (Ew:=[]) fun p hp=>absurd hp (by simp)).turned (t':=s8.toks) (it:=D) (fun b o hb e=>(sb8.2 b hb).trans e) n7 (by rw [eL];exact hDC) (.inr (by rw [es0,uY];exact Nat.le_refl _))
         (Nh (H':=H8) (pn:=[]) (Nat.le_refl _) hDC n7 (fun p hp=>absurd hp (by simp))).2.2.2.2.1 (fun p hp=>by rw [V9] at hp;exact absurd hp (by simp))
       refine⟨n+1 - (i+1),by omega,i+1,ys++[v8],its++[u8],u',v',H8,hlt,rfl,by rw [List.length_append,List.length_singleton];omega,I9,?_,fun b hb=>?_,n7,rv.append (.cons r8 .nil),⟨c+1,?_⟩,w8⟩
       · refine T.keep _ _ _ Kd fun b hb o e=>?_
         have e':=(I8.pin (b,o) (List.mem_append_right _ (List.mem_append_right _ (yR hb e)))).1
         exact (sb8.2 b (fun z=>Dfp (z ▸ hb))).trans e'
       · obtain⟨o,e,d⟩:=T.obj _ _ Kd b hb
         exact (I8.pin (b,o) (List.mem_append_right _ (List.mem_append_right _ (yR hb e)))).2.1
       · rw [g8,List.push_toArray]
 exact codeAny_compStart_list (loop _ rfl) (T.self X.A 0 _ _ _ st₁ (loop _ rfl))
theorem Wq (K:um X scope x y M) (hc:X.calm=true) (hi:PI X tg iter wi) (hg:∀ (C:Addr) (s₂:Shared) (H₂:Hp) (fp:List Addr),PG (fL X scope C x y M s₂ H₂ fp) tg g) (ht:∀ (C:Addr) (s₂:Shared) (H₂:Hp) (fp:List Addr),Ie (fL X scope C x y M s₂ H₂ fp) ifs tc) (he:∀ (C:Addr) (s₂:Shared) (H₂:Hp) (fp:List Addr),PE (fL X scope C x y M s₂ H₂ fp) elt te)
   (hs:∀ x,foldedSetIterable iter X.env x=pure x:=by intro _;rfl):PE X (.ListComp elt [⟨tg,iter,ifs,0⟩] scope pos) (acj wi g tc te):=by
 intro pins s σ H Q I h
 rw [eval_ListComp]
 refine wpAny_comprehension_free (use:=none) rfl hs (K.base.closure I.ok) K.base.kind K.base.names (d9 (hi pins s σ H _ I h) fun v s1 h1=>d9 h1 fun itv s2 h2=>?_)
 obtain⟨it,fp,tn,J,H2,e,I2,T,st2,f2,n,W,hsz,w0,turn⟩:=h2
 subst e
 refine Nv (RR:=fun acc C=>compPost (model X.prog X.w) X.A X.xe none (EP X pins σ Q) acc C) K hc I2 hg ht he T st2 f2 hsz (F:=fun ys H=>∀ p,H p=none→Q (.ref p) (upd H p (.lst ys))) w0 turn ?_
 intro D C s' H' ys m I' n' fC ns fin
 refine⟨m,ns,fun h' sb=>?_⟩
 obtain⟨f0,f1,f2,f3,f4,f5⟩:=fC
 exact⟨.ref D,_,I'.turned (t':=s'.toks) (it:=C) (fun b o hb e=>(sb.2 b hb).trans e) f0 f1 f3 f4 f5,rfl,fin D n'⟩
end
end L2
namespace L2
open PySem PySem.Spec PyProof.Rows PySem.Calls
section
variable {X:Cx}{scope:Scope}{x y:Str}{M:List Str}{elt iter:Expr}{ifs:List Expr}{pos p1 p2 p3:Pos}{kk:Nat}{te:TE}{wi:TI}{tc:TT}
structure Wr (K:PySem.W.Frag) (J:It) (tc:TT) (te:TE) (σ:St) (H1:Hp) (Q:VK):Prop where
 ex:∃ (n:Nat) (W:Nat→List V→Hp→Prop),n≤sizeLine∧W 0 [] H1∧∀ i ys H,i≤n→ys.length≤i→W i ys H →
   (J.stop i H∧∀ p,H p=none→Q (.ref p) (upd H p (.lst ys)))∨(J.go i H∧i<n∧∀ z H',J.PJ i H z H'→∃ (p:Addr) (a b:V),z=.ref p∧dH K H' p [a,b]∧tc (some a::some b::σ) H' fun c H3=>if c=true then te (some a::some b::σ) H3 fun z H4=>W (i+1) (ys++[z]) H4 else W (i+1) ys H3)
def ack (K:PySem.W.Frag) (wi:TI) (tc:TT) (te:TE):TE:=fun σ H Q=>wi σ H fun J H1=>Wr K J tc te σ H1 Q
theorem acn (K:um X scope x y M) (hc:X.calm=true) {C:Addr}{s₂:Shared}{H₂:Hp}{fp:List Addr}:PG (fL X scope C x y M s₂ H₂ fp) (.Tuple [.Name x p1,.Name y p2] kk p3) (afO X.K 2 (Vv (bU 0) (Vv (bU 1) afN))) :=
 Kc (X:=fL X scope C x y M s₂ H₂ fp) hc (xN (yP K.nd2 rfl (.inl (lookup_relabel_local K.base.loc)) (.inr (lookup_relabel_local K.base.loc))) (xN (yP K.nd2 rfl (.inl (lookup_relabel_local K.agh)) (.inr (lookup_relabel_local K.agh))) Ek))
theorem Fy (K:um X scope x y M) (hc:X.calm=true) (hi:PI X (.Tuple [.Name x p1,.Name y p2] kk p3) iter wi) (ht:∀ (C:Addr) (s₂:Shared) (H₂:Hp) (fp:List Addr),Ie (fL X scope C x y M s₂ H₂ fp) ifs tc) (he:∀ (C:Addr) (s₂:Shared) (H₂:Hp) (fp:List Addr),PE (fL X scope C x y M s₂ H₂ fp) elt te)
   (hs:∀ x,foldedSetIterable iter X.env x=pure x:=by intro _;rfl):PE X (.ListComp elt [⟨.Tuple [.Name x p1,.Name y p2] kk p3,iter,ifs,0⟩] scope pos) (ack X.K wi tc te):=by
 intro pins s σ H Q I h
 have q:=Wq (pos:=pos) K hc (wi:=fun σ0 H0 R0=>∃ R,wi σ0 H0 R∧∀ J H1,R J H1→R0 J H1) (wZ hi fun σ H R ⟨R1,a,b⟩=>⟨R1,a,b⟩) (fun C s₂ H₂ fp=>acn (p1:=p1) (p2:=p2) (p3:=p3) (kk:=kk) K hc) ht he hs pins s σ H Q I
 refine q ⟨_,h,fun J H1 r=>?_⟩
 obtain⟨n,W,h1,h2,h3⟩:=r.ex
 refine⟨n,W,h1,h2,fun i ys H' hi hy hw=>?_⟩
 rcases h3 i ys H' hi hy hw with hq | ⟨g1,g2,g3⟩
 · exact .inl hq
 · refine .inr ⟨g1,g2,fun z H2 hz u v=>?_⟩
   obtain⟨p,a,b,e,hq,t⟩:=g3 z H2 hz
   exact⟨p,[a,b],e,hq,rfl,a,[b],rfl,b,[],rfl,rfl,⟨_,_,rfl⟩,t⟩
end
theorem vC {K:PySem.W.Frag}{a:Addr}{xs:List V}{tc:TT}{te:TE}{σ:St}{H:Hp}{Q:VK} (hz:xs.length≤sizeLine) (W:Nat→List V→Hp→Prop) (h0:W 0 [] H) (hq:∀ i ys H,W i ys H→bR K H a xs)
   (hs:∀ i x ys H,xs[i]? = some x→ys.length≤i→W i ys H→∃ (p:Addr) (u v:V),x=.ref p∧dH K H p [u,v]∧tc (some u::some v::σ) H fun c H3=>if c=true then te (some u::some v::σ) H3 fun z H4=>W (i+1) (ys++[z]) H4 else W (i+1) ys H3)
   (hd:∀ ys H,W xs.length ys H→∀ p,H p=none→Q (.ref p) (upd H p (.lst ys))):Wr K (Vj K a) tc te σ H Q:=by
 refine⟨xs.length,W,hz,h0,fun i ys H hi hl hw=>?_⟩
 have q:=hq i ys H hw
 by_cases hlt:i<xs.length
 · refine .inr ⟨⟨xs,xs[i],q,by simp [hlt]⟩,hlt,fun v H' y=>?_⟩
   obtain⟨e,y⟩:=y
   subst e
   exact hs i v ys _ (y xs q) hl hw
 · have e:i=xs.length:=by omega
   subst e
   exact .inl ⟨⟨xs,q,Nat.le_refl _⟩,hd ys H hw⟩
section
variable {prog:Program}{w:World}{A:Around}{E:Value→Shared→Prop}{s:Shared}
end
section
variable {X:Cx}
end
section
variable {X:Cx}{tg:Expr}
end
end L2
namespace L2
open PySem PySem.Spec PyProof.Rows PySem.Calls
end L2
namespace L2
open PySem PySem.Spec PyProof.Rows PySem.Calls
end L2
namespace L2
open PySem PySem.Spec PyProof.Rows PySem.Calls
open PySem.W (tabObj CodeHd kla_obj kla_fn)
def sr (c:Addr) (v:V):HO:=.ext fun h=>∃ u,RelV v u∧h.IsCell c (some u)
def Nx (c:Addr) (q:Str):HO:=.ext fun h=>h.CodeRec (.ref c) q
def Fz (H:Hp) (b:Addr) (u:HO):Prop:=∃ o,H b=some (.ud o u)
structure jk where
 qual:Str
 params:Arguments
 body:Expr
 scope:Scope
 x:Str
 ys:List Str
 gs:List Str:=[]
structure jk.Ok (D:jk):Prop where
 kind:D.scope.kind=.function
 co:D.scope.isCoroutine=false
 gen:D.scope.isGenerator=false
 names:D.scope.names=(D.x,.local)::((D.ys.reverse.map fun y=>(y,NameKind.free))++D.gs.map fun y=>(y,NameKind.globalImplicit))
 nd:(D.x::D.ys).Nodup
 bind:∀ (cs:List (Str × Addr)) (pm cdv ct u:Value),bindArgs (kla_fn "<lambda>" D.qual D.params D.body D.scope cs pm cdv ct) ⟨[u],[]⟩=pure [(D.x,u)]
def Qs (D:jk) (p:Addr) (cs:List (Str × Addr)) (c':Addr):HO:=.ext fun h=>∃ pm ctv,h.get? p=some (kla_obj "<lambda>" D.qual D.params D.body D.scope cs pm c' ctv)
structure Ck (D:jk) (H:Hp) (p:Addr) (cs:List (Str × Addr)) (vs:List V):Prop where
 code:∃ c',H p=some (Qs D p cs c')∧Fz H c' (Nx c' D.qual)
 ys:cs.map (·.1)=D.ys
 nd:(cs.map (·.2)).Nodup
 cells:Paired (fun (y:Str × Addr) v=>Fz H y.2 (sr y.2 v)) cs vs
theorem IsCell.one {h1 h2:Heap}{c:Addr}{v:Option Value} (x:h1.IsCell c v) (k:∀ o,h1.get? c=some o→h2.get? c=some o):h2.IsCell c v:=by
 obtain⟨o,ho,hd⟩:=x
 exact⟨o,k o ho,hd⟩
theorem Ny {P:Program}{w:World}{H:Hp}{h:Heap}{c:Addr}{v:V}{u:Value} (r:RelV v u) (x:h.IsCell c (some u)):cI P w H h c (sr c v):=by
 obtain⟨o,ho,hd⟩:=x
 refine⟨⟨u,r,o,ho,hd⟩,⟨o,ho⟩,fun h1 h2 y k=>?_⟩
 obtain⟨u,r,x⟩:=y
 exact⟨u,r,IsCell.one x k⟩
theorem Ws {P:Program}{w:World}{H:Hp}{h:Heap}{c:Addr}{q:Str} (x:h.CodeRec (.ref c) q):cI P w H h c (Nx c q):=by
 refine⟨x,?_,fun h1 h2 x k=>?_⟩
 · obtain⟨c',o,vs,t,e,g,r⟩:=x
   cases e
   exact⟨o,g⟩
 · obtain⟨c',o,vs,t,e,g,r⟩:=x
   cases e
   exact⟨c,o,vs,t,rfl,k o g,r⟩
theorem ZS {P:Program}{w:World}{H:Hp}{h:Heap}{D:jk}{p c':Addr}{cs:List (Str × Addr)}{pm ctv:Value} (x:h.get? p=some (kla_obj "<lambda>" D.qual D.params D.body D.scope cs pm c' ctv)):cI P w H h p (Qs D p cs c'):=by
 refine⟨⟨pm,ctv,x⟩,⟨_,x⟩,fun h1 h2 y k=>?_⟩
 obtain⟨pm,ctv,x⟩:=y
 exact⟨pm,ctv,k _ x⟩
def dels (H:Hp) (ca:List Addr):Hp:=fun b=>if b∈ca then none else H b
def back (H:Hp) (ca:List Addr) (H1:Hp):Hp:=fun b=>if b∈ca then H b else H1 b
theorem uo {H:Hp}{ca:List Addr}{b:Addr} (h:b∈ca):dels H ca b=none:=if_pos h
theorem xC {H:Hp}{ca:List Addr}{b:Addr} (h:b∉ca):dels H ca b=H b:=if_neg h
theorem back_in {H H1:Hp}{ca:List Addr}{b:Addr} (h:b∈ca):back H ca H1 b=H b:=if_pos h
theorem lF {H H1:Hp}{ca:List Addr}{b:Addr} (h:b∉ca):back H ca H1 b=H1 b:=if_neg h
theorem mY {H:Hp}{ca:List Addr}{b:Addr} (h:H b=none):dels H ca b=none:=by
 by_cases e:b∈ca
 · exact uo e
 · rw [xC e];exact h
theorem aA.back {H H1:Hp}{ca:List Addr} (e:aA (dels H ca) H1):aA H (back H ca H1):=fun b u q=>by
 by_cases z:b∈ca
 · rw [back_in z];exact q
 · rw [lF z];exact e b u (by rw [xC z];exact q)
theorem rU.dels {P:Program}{w:World}{H:Hp}{h:Heap}{ca:List Addr} (x:rU P w H h) (f:∀ c∈ca,∃ u,Fz H c u):rU P w (dels H ca) h:=fun b o e=>by
 by_cases hb:b∈ca
 · rw [uo hb] at e;cases e
 · rw [xC hb] at e
   refine (x b o e).stay (fun _ _ _ q=>q) (fun d q=>?_) fun d xs q=>?_
   · rw [xC fun z=>?_];exact q
     obtain⟨u,o,z⟩:=f d z
     rw [q] at z;cases z
   · rw [xC fun z=>?_];exact q
     obtain⟨u,o,z⟩:=f d z
     rw [q] at z;cases z
theorem Uq {F:Str × Addr→V→Prop}{cs:List (Str × Addr)}{vs:List V} (h:Paired F cs vs):(cs.map (·.1)).Nodup→∀ {i:Nat}{y:Str}{v:V},(cs.map (·.1))[i]? = some y→vs[i]? = some v→∃ c,cs.lookup y=some c∧F (y,c) v:=by
 induction h with
 | nil=>intro _ i y v e;simp at e
 | @cons a b la lb r t ih =>
   intro nd i y v e1 e2
   obtain⟨a1,a2⟩:=a
   cases i with
   | zero =>
     simp at e1 e2
     subst e1;subst e2
     exact⟨a2,by rw [List.lookup_cons,beq_self_eq_true],r⟩
   | succ i =>
     simp only [List.map_cons,List.getElem?_cons_succ] at e1 e2
     have rO:=List.nodup_cons.mp nd
     obtain⟨c,q1,q2⟩:=ih rO.2 e1 e2
     refine⟨c,?_,q2⟩
     have ne:(y == a1)=false:=beq_eq_false_iff_ne.mpr fun z=>rO.1 (by subst z;exact List.mem_of_getElem? e1)
     rw [List.lookup_cons,ne]
     exact q1
theorem su {α β:Type}{F:α→β→Prop}{cs:List α}{vs:List β} (h:Paired F cs vs):∀ a∈cs,∃ v∈vs,F a v:=by
 induction h with
 | nil=>intro a z;cases z
 | cons r t ih =>
   intro a z
   rcases List.mem_cons.mp z with rfl | z
   · exact⟨_,List.mem_cons_self,r⟩
   · obtain⟨v,q,f⟩:=ih a z
     exact⟨v,List.mem_cons_of_mem _ q,f⟩
theorem ZV {cs:List (Str × Addr)} (nd:(cs.map (·.2)).Nodup) {x y:Str}{c:Addr} (h1:(x,c)∈cs) (h2:(y,c)∈cs):x=y:=by
 induction cs with
 | nil=>cases h1
 | cons a l ih =>
   have rO:=List.nodup_cons.mp nd
   rcases List.mem_cons.mp h1 with e1 | e1 <;> rcases List.mem_cons.mp h2 with e2 | e2
   · rw [← e1] at e2;cases e2;rfl
   · exact absurd (List.mem_map_of_mem (f:=(·.2)) e2) (by rw [← e1] at rO;exact rO.1)
   · exact absurd (List.mem_map_of_mem (f:=(·.2)) e1) (by rw [← e2] at rO;exact rO.1)
   · exact ih rO.2 e1 e2
theorem Th {cs:List (Str × Addr)} (nd:(cs.map (·.1)).Nodup) {x:Str}{c d:Addr} (h1:(x,c)∈cs) (h2:(x,d)∈cs):c=d:=by
 induction cs with
 | nil=>cases h1
 | cons a l ih =>
   have rO:=List.nodup_cons.mp nd
   rcases List.mem_cons.mp h1 with e1 | e1 <;> rcases List.mem_cons.mp h2 with e2 | e2
   · rw [← e1] at e2;cases e2;rfl
   · exact absurd (List.mem_map_of_mem (f:=(·.1)) e2) (by rw [← e1] at rO;exact rO.1)
   · exact absurd (List.mem_map_of_mem (f:=(·.1)) e1) (by rw [← e2] at rO;exact rO.1)
   · exact ih rO.2 e1 e2
def Cm (CX:HX) (P:Program) (w:World) (K:PySem.W.Frag) (mg:Str→Option Value) (base:Heap) (D:jk) (p:Addr) (cs:List (Str × Addr)) (cd:Value) (A:Around) (outer:List Env) (s:Shared) (H:Hp) (E:XK):Cx where
 prog:=P
 w:=w
 K:=K
 mg:=mg
 base:=base
 A:=A.deeper (PySem.W.envX D.qual D.scope s.heap.objs.size p cd cs)
 N:=D.x::D.ys
 s₀:=s
 H₀:=dels H (cs.map (·.2))
 env:=PySem.W.envX D.qual D.scope s.heap.objs.size p cd cs
 outer:=outer
 stack:=PySem.W.envX D.qual D.scope s.heap.objs.size p cd cs::outer
 ex:=[]
 calm:=true
 fn:=fun _=>false
 pn:=[]
 xe:=fun e s'=>wpAny (model P w) (A.deeper (PySem.W.envX D.qual D.scope s.heap.objs.size p cd cs)) (leaving (PySem.W.envX D.qual D.scope s.heap.objs.size p cd cs) e) (fun _ s''=>CX outer H s E e s'') (fun e' s''=>CX outer H s E e' s'') s'
theorem jk.Ok.lx {D:jk} (O:D.Ok):D.scope.names.lookup D.x=some .local:=by rw [O.names,List.lookup_cons,beq_self_eq_true]
theorem abe:∀ {l:List Str}{y:Str}{k:NameKind},(l.map fun y=>(y,NameKind.free)).lookup y=some k→y∈l∧k=.free
 | [],_,_,h=>by cases h
 | a::l,y,k,h=>by
   rw [List.map_cons,List.lookup_cons] at h
   cases e:y == a with
   | true=>rw [e] at h;cases h;exact⟨by rw [eq_of_beq e];exact List.mem_cons_self,rfl⟩
   | false=>rw [e] at h;obtain⟨p,q⟩:=abe h;exact⟨List.mem_cons_of_mem _ p,q⟩
theorem Wt:∀ {l:List Str}{y:Str},y∈l→(l.map fun y=>(y,NameKind.free)).lookup y=some .free
 | [],_,h=>by cases h
 | a::l,y,h=>by
   rw [List.map_cons,List.lookup_cons]
   cases e:y == a with
   | true=>rfl
   | false =>
     rcases List.mem_cons.mp h with rfl | h
     · rw [beq_self_eq_true] at e;cases e
     · exact Wt h
theorem Nz {l r:List (Str × NameKind)}{y:Str}:(l++r).lookup y=match l.lookup y with | some k=>some k | none=>r.lookup y:=by
 induction l with
 | nil=>rfl
 | cons a l ih =>
   obtain⟨a1,a2⟩:=a
   rw [List.cons_append,List.lookup_cons,List.lookup_cons]
   cases e:y == a1 with
   | true=>rfl
   | false=>exact ih
theorem abf:∀ {l:List Str}{y:Str}{k:NameKind},(l.map fun y=>(y,NameKind.globalImplicit)).lookup y=some k→k=.globalImplicit
 | [],_,_,h=>by cases h
 | a::l,y,k,h=>by
   rw [List.map_cons,List.lookup_cons] at h
   cases e:y == a with
   | true=>rw [e] at h;cases h;rfl
   | false=>rw [e] at h;exact abf h
theorem jk.Ok.of {D:jk} (O:D.Ok) {x:Str}{k:NameKind} (h:D.scope.names.lookup x=some k):(x=D.x∧k=.local)∨(x∈D.ys∧k=.free)∨k=.globalImplicit:=by
 rw [O.names,List.lookup_cons] at h
 cases e:x == D.x with
 | true=>rw [e] at h;cases h;exact .inl ⟨eq_of_beq e,rfl⟩
 | false =>
   rw [e,Nz] at h
   cases q:(D.ys.reverse.map fun y=>(y,NameKind.free)).lookup x with
   | some k' =>
     rw [q] at h
     cases h
     obtain⟨p,q⟩:=abe q
     exact .inr (.inl ⟨List.mem_reverse.mp p,q⟩)
   | none =>
     rw [q] at h
     exact .inr (.inr (abf h))
theorem jk.Ok.ly {D:jk} (O:D.Ok) {y:Str} (h:y∈D.ys):D.scope.names.lookup y=some .free:=by
 have ne:(y == D.x)=false:=beq_eq_false_iff_ne.mpr fun z=>(List.nodup_cons.mp O.nd).1 (by rw [← z];exact h)
 rw [O.names,List.lookup_cons,ne,Nz,Wt (List.mem_reverse.mpr h)]
theorem Ag {cs:List (Str × Addr)}{y:Str} (h:y∈cs.map (·.1)):∃ c,cs.lookup y=some c:=by
 induction cs with
 | nil=>cases h
 | cons a l ih =>
   obtain⟨a1,a2⟩:=a
   rw [List.lookup_cons]
   cases e:y == a1 with
   | true=>exact⟨a2,rfl⟩
   | false =>
     rcases List.mem_cons.mp h with rfl | h
     · rw [beq_self_eq_true] at e;cases e
     · exact ih h
theorem ZW {CX:HX}{P:Program}{w:World}{K:PySem.W.Frag}{mg:Str→Option Value}{base:Heap}{D:jk}{p:Addr}{cs:List (Str × Addr)}{cd:Value}{A:Around}{outer:List Env}{s:Shared}{h1:Heap}{tk:Tok}{H:Hp}{E:XK}{u:Value}{v:V}{vs:List V}{m:Str→Option Value}
   (O:D.Ok) (hd:A.handled=none) (e0:wQ P w K mg base A outer s H) (L:Ck D H p cs vs) (r:RelV v u)
   (hn:h1.Ns s.heap.objs.size m) (hm:m D.x=some u) (hk:∀ b o,s.heap.get? b=some o→h1.get? b=some o) :
   Inv (Cm CX P w K mg base D p cs cd A outer s H E) [] (some v::vs.map some) (dels H (cs.map (·.2))) { s with heap:=h1,toks:=tk }:=by
 have Zv:∀ b:Addr,b∉(Cm CX P w K mg base D p cs cd A outer s H E).ex:=fun b z=>absurd (show b∈([]:List Addr) from z) (by simp)
 have cell:∀ {y:Str}{c:Addr}{v:V},Fz H c (sr c v)→∃ uc,RelV v uc∧s.heap.IsCell c (some uc):=fun {y c v} f=>by
   obtain⟨o,e⟩:=f
   exact (e0.hok _ _ e).2.1
 have fz:∀ c∈cs.map (·.2),∃ u,Fz H c u:=fun c hc=>by
   obtain⟨q,hq,rfl⟩:=List.mem_map.mp hc
   obtain⟨v,_,f⟩:=su L.cells q hq
   exact⟨_,f⟩
 refine⟨⟨e0.mod,O.kind,rfl,rfl,Nat.le_refl _,fun y z c h1 h2=>ZV L.nd (PySem.mem_of_lookup h1) (PySem.mem_of_lookup h2),fun y hy=>?_,fun y c h _=>(by cases (show false=true from h)),fun _=>hd,Around.frames_deeper e0.frames,.inr ⟨rfl,rfl⟩,fun b z=>absurd z (Zv b),fun b o e=>⟨(e0.bs b o e).1,mY (e0.bs b o e).2⟩,e0.T6,fun b _ _=>Zv b,fun b z=>absurd z (Zv b),e0.rW,fun b hb=>mY (e0.Vs b hb)⟩,
   rfl,e0.bare,Un.kept hk,⟨m,hn,fun i y v' h1 h2 h3=>?_⟩,fun y c h=>?_,mY (e0.hok.fresh (Nat.le_refl _)),fun y c h=>uo (List.mem_map_of_mem (f:=(·.2)) (PySem.mem_of_lookup h)),fun p hp=>absurd (show p∈([]:List (Addr × Obj)) from hp) (by simp),((e0.hok.dels fz).kept hk),?_⟩
 · rcases hy with hy | hy
   · rcases O.of hy with ⟨_,e⟩ | ⟨_,e⟩ | e <;> cases e
   · rcases O.of hy with ⟨_,e⟩ | ⟨e,_⟩ | e
     · cases e
     · exact Ag (cs:=cs) (by rw [L.ys];exact e)
     · cases e
 · cases i with
   | zero =>
     cases h1;cases h2
     exact⟨u,r,.inl ⟨O.lx,hm⟩⟩
   | succ i =>
     have h1:D.ys[i]? = some y:=h1
     have h2:(vs.map some)[i]? = some (some v'):=h2
     rw [List.getElem?_map] at h2
     have h2':vs[i]? = some v':=by
       cases q:vs[i]? with
       | none=>rw [q] at h2;cases h2
       | some z=>rw [q] at h2;cases h2;rfl
     obtain⟨c,e1,e2⟩:=Uq L.cells (by rw [L.ys];exact (List.nodup_cons.mp O.nd).2) (by rw [L.ys];exact h1) h2'
     obtain⟨uc,rc,hc⟩:=cell (y:=y) e2
     exact⟨uc,rc,.inr ⟨.inr (O.ly (List.mem_of_getElem? h1)),c,e1,IsCell.one hc (hk _)⟩⟩
 · obtain⟨v,_,f⟩:=su L.cells _ (PySem.mem_of_lookup h)
   obtain⟨uc,rc,hc⟩:=cell (y:=y) f
   exact⟨_,IsCell.one hc (hk _)⟩
 · have e1:=congrArg List.length L.ys
   have e2:cs.length=vs.length:=Paired.length L.cells
   show (some v::vs.map some).length=(D.x::D.ys).length
   simp at e1 ⊢
   omega
end L2
namespace L2
open PySem PySem.Spec PyProof.Rows PySem.Calls
open PySem.W (tabObj CodeHd kla_obj kla_fn)
theorem ZX {CX:HX}{P:Program}{w:World}{K:PySem.W.Frag}{mg:Str→Option Value}{base:Heap}{D:jk}{k:Nat}{tb:TE} (O:D.Ok)
   (hbody:∀ (p:Addr) (cs:List (Str × Addr)) (cd:Value) (A:Around) (outer:List Env) (s:Shared) (H:Hp) (E:XK),fD k (A.deeper (PySem.W.envX D.qual D.scope s.heap.objs.size p cd cs))→PE (Cm CX P w K mg base D p cs cd A outer s H E) D.body tb)
   {A:Around}{outer:List Env}{s:Shared}{H:Hp}{p:Addr}{cs:List (Str × Addr)}{u:Value}{x:V}{vs:List V}{Q:VK}{E:XK} (hr:fD (k+1) A) (e0:wQ P w K mg base A outer s H)
   (L:Ck D H p cs vs) (r:RelV x u)
   (h:tb (some x::vs.map some) (dels H (cs.map (·.2))) (fun y H1=>Q y (back H (cs.map (·.2)) H1))) :
   codeAny (model P w) A (.call (.ref p) ⟨[u],[]⟩) (CR CX outer P w H s Q E) s:=by
 obtain⟨c',hp,oc,hcd⟩:=L.code
 obtain⟨⟨pm,ctv,ho⟩,_,_⟩:=e0.hok _ _ hp
 have hrec:s.heap.CodeRec (.ref c') D.qual:=(e0.hok _ _ hcd).2.1
 have lim:s.heap.NoLimit:=e0.mod.nolimit.keeps fun b o e=>(e0.bs b o e).1
 refine PySem.W.kla_callFunE hr.depth ho rfl O.co O.gen rfl hrec ?_
 rw [O.bind]
 refine wpAny_pure (wpAny_newFunctionEnv (fun y hy=>?_) (fun y hy=>?_) (fun h₁ hns hsb=>⟨lim.fresh _ hsb,?_⟩) O.kind)
 · have hy:y∈D.scope.names:=hy
   rw [O.names] at hy
   rcases List.mem_cons.mp hy with rfl | hy
   · intro z;cases z
   · rcases List.mem_append.mp hy with hy | hy
     · obtain⟨q,_,rfl⟩:=List.mem_map.mp hy;intro z;cases z
     · obtain⟨q,_,rfl⟩:=List.mem_map.mp hy;intro z;cases z
 · rw [List.mem_singleton.mp hy];exact O.lx
 show codeAny _ _ (.expr D.body (PySem.W.envX D.qual D.scope s.heap.objs.size p (.ref c') cs)) _ _
 have hk₁:∀ b o,s.heap.get? b=some o→h₁.get? b=some o:=fun b o e=>hsb.extBut b o (Nat.ne_of_lt (Heap.lt_size e)) (Heap.get?_push_of_some _ e)
 have I:Inv (Cm CX P w K mg base D p cs (.ref c') A outer s H E) [] (some x::vs.map some) (dels H (cs.map (·.2))) { s with heap:=h₁,toks:=s.toks+1 } :=
   ZW O hr.hd e0 L r hns (by show List.lookup D.x [(D.x,u)]=_;rw [List.lookup_cons,beq_self_eq_true]) hk₁
 refine PySem.W.kla_codeExpr (wpAny_mono (hbody p cs (.ref c') A outer s H E (hr.deeper _) [] _ _ _ _ I h) (fun y s' hs=>?_) fun e s' hs=>hs)
 obtain⟨v',H',J,rv,q⟩:=hs
 have fz:∀ c∈cs.map (·.2),∃ o u,H c=some (.ud o u):=fun c hc=>by
   obtain⟨z,hz,rfl⟩:=List.mem_map.mp hc
   obtain⟨v,_,o,f⟩:=su L.cells z hz
   exact⟨o,_,f⟩
 have un:=J.base
 have Ej:∀ b:Addr,b∉(Cm CX P w K mg base D p cs (.ref c') A outer s H E).ex:=fun b z=>absurd (show b∈([]:List Addr) from z) (by simp)
 have inn:∀ {b:Addr}{u:HO},b∈cs.map (·.2)→(∀ o v,u≠.ud o v)→H b≠some u:=fun {b u} hb n e=>by
   obtain⟨o,v,z⟩:=fz b hb
   rw [e] at z;cases z;exact n _ _ rfl
 have abg:∀ b∈cs.map (·.2),∀ o,s.heap.get? b=some o→s'.heap.get? b=some o:=fun b hb o e=>un.keep b o e (uo hb) (fun z=>by
   obtain⟨o',u',z'⟩:=fz b hb
   have:=e0.Vs b z;rw [z'] at this;cases this) (Ej b)
 refine⟨v',back H (cs.map (·.2)) H',J.os,J.bare,⟨fun b o e n hb hx=>un.keep b o e (mY n) hb (Ej b),fun b o e n hb hx=>un.slot b o e (mY n) hb (Ej b),fun b o e n hx=>?_,fun b o e hx=>un.there b o e (Ej b),fun b xs e=>?_,fun b o z e=>?_,fun b ps e=>?_⟩,fun b o e=>?_,rv,q⟩
 · by_cases hb:b∈cs.map (·.2)
   · rw [back_in hb];exact n
   · rw [lF hb];exact un.free b o e (mY n) (Ej b)
 · have hb:b∉cs.map (·.2):=fun hb=>inn hb (fun _ _ z=>by cases z) e
   rw [lF hb];exact un.tups b xs (by show dels H _ b=_;rw [xC hb];exact e)
 · by_cases hb:b∈cs.map (·.2)
   · rw [back_in hb];exact e
   · rw [lF hb];exact un.pD b o z (by show dels H _ b=_;rw [xC hb];exact e)
 · have hb:b∉cs.map (·.2):=fun hb=>inn hb (fun _ _ z=>by cases z) e
   rw [lF hb];exact un.pF b ps (by show dels H _ b=_;rw [xC hb];exact e)
 · have own:∀ d,H' d=some (.own b)→back H (cs.map (·.2)) H' d=some (.own b):=fun d z=>by
     have hd:d∉cs.map (·.2):=fun hd=>by
       obtain⟨y,hy,e⟩:=List.mem_map.mp hd
       have hl:∃ y,cs.lookup y=some d:=by
         obtain⟨y1,y2⟩:=y
         have e:y2=d:=e
         subst e
         obtain⟨c,hc⟩:=Ag (cs:=cs) (List.mem_map_of_mem (f:=(·.1)) hy)
         have hc2:=PySem.mem_of_lookup hc
         have ndf:(cs.map (·.1)).Nodup:=by rw [L.ys];exact (List.nodup_cons.mp O.nd).2
         have:c=y2:=Th ndf hc2 hy
         subst this
         exact⟨y1,hc⟩
       obtain⟨y,hl⟩:=hl
       have:=J.lA y d hl
       rw [z] at this;cases this
     rw [lF hd];exact z
   have tup:∀ d xs,H' d=some (.tup xs)→back H (cs.map (·.2)) H' d=some (.tup xs):=fun d xs z=>by
     have hd:d∉cs.map (·.2):=fun hd=>by
       obtain⟨y,hy,e⟩:=List.mem_map.mp hd
       have hl:∃ y,cs.lookup y=some d:=by
         obtain⟨y1,y2⟩:=y
         have e:y2=d:=e
         subst e
         obtain⟨c,hc⟩:=Ag (cs:=cs) (List.mem_map_of_mem (f:=(·.1)) hy)
         have hc2:=PySem.mem_of_lookup hc
         have ndf:(cs.map (·.1)).Nodup:=by rw [L.ys];exact (List.nodup_cons.mp O.nd).2
         have:c=y2:=Th ndf hc2 hy
         subst this
         exact⟨y1,hc⟩
       obtain⟨y,hl⟩:=hl
       have:=J.lA y d hl
       rw [z] at this;cases this
     rw [lF hd];exact z
   by_cases hb:b∈cs.map (·.2)
   · rw [back_in hb] at e
     obtain⟨o',u',z⟩:=fz b hb
     rw [z] at e;cases e
     obtain⟨y,hy,ey⟩:=List.mem_map.mp hb
     obtain⟨v,_,ob,f⟩:=su L.cells y hy
     rw [ey] at f
     rw [z] at f;cases f
     obtain⟨g1,g2⟩:=e0.hok b _ z
     obtain⟨⟨uc,rc,hcell⟩,_,_⟩:=g2
     exact⟨abg b hb _ g1,Ny rc (IsCell.one hcell fun o q=>abg b hb o q)⟩
   · rw [lF hb] at e
     exact (J.hok b o e).stay (fun _ _ _ q=>q) own tup
def aco (D:jk) (tb tf:TE) (t:TA):TE:=fun σ H Q=>tf σ H fun f H1=>∃ p,f=.ref p∧t σ H1 fun vs H2=>∃ x cs ws,vs=[x]∧Ck D H2 p cs ws ∧
 tb (some x::ws.map some) (dels H2 (cs.map (·.2))) fun y H3=>Q y (back H2 (cs.map (·.2)) H3)
theorem FJ {X:Cx}{CX:HX}{D:jk}{k:Nat}{tb tf:TE}{t:TA}{x:Str}{p pos:Pos}{e:Expr}{E:XK} (O:D.Ok)
   (hbody:∀ (p:Addr) (cs:List (Str × Addr)) (cd:Value) (A:Around) (outer:List Env) (s:Shared) (H:Hp) (E:XK),fD k (A.deeper (PySem.W.envX D.qual D.scope s.heap.objs.size p cd cs))→PE (Cm CX X.prog X.w X.K X.mg X.base D p cs cd A outer s H E) D.body tb)
   (hr:fD (k+1) X.A) (hx:Passes CX X E) (hf:PE X (.Name x p) tf) (ha:PA X [e] t) (he:starEach [e] X.env=(false,eval e X.env)::starEach [] X.env:=by rfl) :
   PE X (.Call (.Name x p) [e] [] pos) (aco D tb tf t):=by
 intro pins s σ H Q I h
 refine wpAny_Call_Name_kw (d9 (hf pins s σ H _ I h) fun f s1 zq=>?_)
 obtain⟨fv,H1,I1,rf,q,ef,h1⟩:=zq
 subst ef
 obtain rfl:f=Value.ref q:=rf
 have h2:=ha pos pins s1 σ H1 _ I1 h1
 rw [he] at h2
 show wpAny _ _ (callWith pos (.ref q) [] (backTo pos (starEach [e] X.env)) []) _ _ _
 rw [he]
 refine PySem.W.callWith_of (P:=PySem.W.FnAt q) rfl PySem.W.keeps_F (evalArgs_plain (d9 h2 fun us s2 zq=>?_))
 obtain⟨vs,H2,I2,rvs,y,cs,ws,ev,L,hb⟩:=zq
 subst ev
 obtain⟨c',hp,_⟩:=L.code
 obtain⟨⟨pm,ctv,ho⟩,_,_⟩:=I2.hok _ _ hp
 refine⟨⟨_,_,_,_,ho⟩,?_⟩
 cases rvs with
 | cons r rest =>
   cases rest
   refine wpAny_call (codeAny_mono (ZX (E:=E) O hbody hr I2.env0 L r hb) fun r s' hq=>?_)
   cases r with
   | error e=>exact hx pins σ H2 s2 e s' I2 hq
   | ok fl =>
     cases fl with
     | ret u=>exact I2.after hq
     | next=>exact False.elim hq
     | brk=>exact False.elim hq
     | cont=>exact False.elim hq
def BMain (mg:Str→Option Value) (h:Heap):Prop:=∃ bm ob,mg "__builtins__" = some (.ref bm)∧bm≠builtinsNs∧h.get? bm=some ob∧ob.cls=.type "module"∧ob.dict=some builtinsNs∧ob.data=.plain
def uE (env:Env) (ys:List Str):List (Str × Addr):=ys.map fun y=>(y,(env.cells.lookup y).getD 0)
theorem FN {f:(Str × NameKind)→List (Str × Addr)→Sem (ForInStep (List (Str × Addr)))}:∀ (l:List Str) (acc:List (Str × Addr)),(∀ y∈l,∀ acc,f (y,.globalImplicit) acc=pure (.yield acc)) →
   forIn (l.map fun y=>(y,NameKind.globalImplicit)) acc f=pure acc
 | [],acc,_=>by simp
 | y::l,acc,h=>by
   rw [List.map_cons,List.forIn_cons,h y List.mem_cons_self]
   simp only [pure_bind]
   exact FN l acc fun z hz=>h z (List.mem_cons_of_mem _ hz)
theorem FP {f:(Str × NameKind)→List (Str × Addr)→Sem (ForInStep (List (Str × Addr)))}{c:Str→Addr}{gs:List Str} (hg:∀ y∈gs,∀ acc,f (y,.globalImplicit) acc=pure (.yield acc)):∀ (l:List Str) (acc:List (Str × Addr)),(∀ y∈l,∀ acc,f (y,.free) acc=pure (.yield ((y,c y)::acc))) →
   forIn ((l.map fun y=>(y,NameKind.free))++gs.map fun y=>(y,NameKind.globalImplicit)) acc f=pure ((l.reverse.map fun y=>(y,c y))++acc)
 | [],acc,_=>by
   rw [List.map_nil,List.nil_append,FN gs acc hg]
   simp
 | y::l,acc,h=>by
   rw [List.map_cons,List.cons_append,List.forIn_cons,h y List.mem_cons_self]
   simp only [pure_bind]
   rw [FP hg l ((y,c y)::acc) fun z hz=>h z (List.mem_cons_of_mem _ hz)]
   simp
theorem Wu {D:jk} (O:D.Ok) {env:Env} (h:∀ y∈D.ys,∃ c,env.cells.lookup y=some c):closureFor D.scope env=pure (uE env D.ys):=by
 unfold closureFor
 simp only []
 rw [O.names,List.forIn_cons]
 simp only [show (NameKind.local == NameKind.free)=false from rfl,pure_bind,Bool.false_eq_true,if_false]
 rw [FP (c:=fun y=>(env.cells.lookup y).getD 0) (gs:=D.gs) (fun y _ acc=>by simp only [show (NameKind.globalImplicit == NameKind.free)=false from rfl,Bool.false_eq_true,if_false]) D.ys.reverse [] fun y hy acc=>?_]
 · simp [uE]
 · obtain⟨c,e⟩:=h y (List.mem_reverse.mp hy)
   have e':cellOf env y=pure c:=by unfold cellOf;rw [e]
   simp [e',e]
def Wv (P:Addr) (H H':Hp):Prop:=∀ b u,b≠P→H b=some u→H' b=some u
def d8 (q:Str) (pos:Pos):Array Value:=#[.str q 0,rawInt pos.line,rawInt pos.col]
theorem abh {P:Program}{w:World}{outer:List Env}{s:Shared}{h2:Heap}{H:Hp}{Q:VK}{D:jk}{Pt c' p:Addr}{cs:List (Str × Addr)}{pos:Pos}{pm ctv:Value}{tk:Tok}
   (hok:rU P w H s.heap) (hT:H Pt=some (.iI (d8 D.qual pos))) (hx:∀ b o,b≠Pt→s.heap.get? b=some o→h2.get? b=some o) (hP2:h2.get? Pt=some (tabObj #[rawInt pos.line,rawInt pos.col,.ref c']))
   (hrec:h2.CodeRec (.ref c') D.qual) (hp:h2.get? p=some (kla_obj "<lambda>" D.qual D.params D.body D.scope cs pm c' ctv))
   (fp:s.heap.objs.size≤p) (f':(H c'=none∧s.heap.objs.size≤c')∨H c'=some (.own Pt)) (bare:AllBare s.gens)
   (q:∀ H',H p=none→Wv Pt H H'→H' Pt=some (.iI (d8 D.qual pos ++ #[.ref c']))→H' p=some (Qs D p cs c')→H' c'=some (.own Pt)→Q (.ref p) H') :
   CE outer P w H s Q (.ref p) { s with heap:=h2,toks:=tk }:=by
 obtain⟨c2,o',vs',t',e',ho',hd',hv'⟩:=id hrec
 cases e'
 have hPlt:Pt<s.heap.objs.size:=(hok _ _ hT).lt
 have np:H p=none:=hok.fresh fp
 have n2:p≠c':=by rintro rfl;rw [hp] at ho';cases ho';cases hd'
 have n4:Pt≠p:=Nat.ne_of_lt (Nat.lt_of_lt_of_le hPlt fp)
 have n6:Pt≠c':=by
   rintro rfl
   rcases f' with ⟨e,_⟩ | e
   · rw [hT] at e;cases e
   · rw [hT] at e;cases e
 generalize eH:upd (upd (upd H Pt (.iI (d8 D.qual pos ++ #[.ref c']))) c' (.own Pt)) p (Qs D p cs c')=H'
 have g1:H' p=some (Qs D p cs c'):=by rw [← eH];exact zB
 have g3:H' c'=some (.own Pt):=by rw [← eH,zI n2.symm];exact zB
 have g4:H' Pt=some (.iI (d8 D.qual pos ++ #[.ref c'])):=by rw [← eH,zI n4,zI n6];exact zB
 have g5:∀ b,b≠p→b≠c'→b≠Pt→H' b=H b:=fun b a1 a3 a4=>by rw [← eH,zI a1,zI a3,zI a4]
 have sb:Wv Pt H H':=fun b o hb e=>by
   have a1:b≠p:=zJ e np
   by_cases a3:b=c'
   · subst a3
     rcases f' with ⟨z,_⟩ | z
     · rw [z] at e;cases e
     · rw [z] at e;cases e;exact g3
   · rw [g5 b a1 a3 hb];exact e
 have old:∀ b o,s.heap.get? b=some o→H b=none→b≠Pt∧H' b=none:=fun b o e n=>by
   have lt:=Heap.lt_size e
   have a4:b≠Pt:=by rintro rfl;rw [hT] at n;cases n
   refine⟨a4,?_⟩
   rw [g5 b (Nat.ne_of_lt (Nat.lt_of_lt_of_le lt fp)) ?_ a4]
   · exact n
   · rintro rfl
     rcases f' with ⟨_,z⟩ | z
     · exact absurd (Nat.lt_of_lt_of_le lt z) (Nat.lt_irrefl _)
     · rw [n] at z;cases z
 refine⟨.ref p,H',rfl,bare,⟨fun b o e n _ _=>hx b o (old b o e n).1 e,fun b o e n _ _=>⟨o.slots,hx b o (old b o e n).1 e⟩,fun b o e n _=>(old b o e n).2,fun b o e _=>?_,fun b xs e=>?_,fun b o z e=>?_,fun b qs e=>?_⟩,fun b o e=>?_,rfl,q H' np sb g4 g1 g3⟩
 · by_cases hb:b=Pt
   · exact⟨_,by rw [hb];exact hP2⟩
   · exact⟨o,hx b o hb e⟩
 · exact sb b _ (by rintro rfl;rw [hT] at e;cases e) e
 · exact sb b _ (by rintro rfl;rw [hT] at e;cases e) e
 · by_cases hb:b=Pt
   · subst hb
     rw [hT] at e;cases e
     exact⟨_,g4⟩
   · exact⟨#[],by rw [sb b _ hb e];simp⟩
 · by_cases a1:b=p
   · subst a1;rw [g1] at e;cases e;exact ZS hp
   by_cases a3:b=c'
   · subst a3;rw [g3] at e;cases e;exact⟨_,ho'⟩
   by_cases a4:b=Pt
   · subst a4;rw [g4] at e;cases e
     exact⟨_,hP2,.inr ⟨D.qual,_,_,c',rfl,.inr rfl,g3,hrec⟩⟩
   rw [g5 b a1 a3 a4] at e
   refine (hok b o e).stay (fun d z hd ez=>hx d z ?_ ez) (fun d z=>sb d _ ?_ z) fun d xs z=>sb d _ ?_ z
   · rcases hd with rfl | hd
     · exact a4
     · rintro rfl;rw [hT] at hd;cases hd
   · rintro rfl;rw [hT] at z;cases z
   · rintro rfl;rw [hT] at z;cases z
def agj (D:jk) (env:Env) (Pt:Addr) (pos:Pos):TE:=fun _ H Q=>H Pt=some (.iI (d8 D.qual pos))∧∀ p c' H',H p=none→Wv Pt H H'→H' Pt=some (.iI (d8 D.qual pos ++ #[.ref c'])) →
 H' p=some (Qs D p (uE env D.ys) c')→H' c'=some (.own Pt)→Q (.ref p) H'
theorem Ti {X:Cx}{D:jk}{c Pt:Addr}{pos:Pos} (O:D.Ok) (hq:X.env.qual ++ "<lambda>" = D.qual) (hdef:defaultsOf D.params X.env=([],[])) (hcv:X.env.code=.ref c) (hch:PySem.W.codeHdIn X.K c Pt=true) (hB:BMain X.mg X.base)
   (hys:∀ y∈D.ys,X.env.kindOf y=some .cell):PE X (.Lambda D.params D.body D.scope pos) (agj D X.env Pt pos):=by
 intro pins s σ H Q I h
 obtain⟨hT,h⟩:=h
 have hclos:=Wu O (env:=X.env) fun y hy=>I.ok.has y (.inl (hys y hy))
 have hgs:s.heap.Ns mainGlobals X.mg:=I.mod.glob.keeps I.bk
 have C:CodeHd s.heap c Pt:=PySem.W.codeHd_of_K I.Dd hch
 have hsome:H Pt≠none:=by rw [hT];simp
 have hgP:mainGlobals≠Pt:=fun e=>by
   obtain⟨o,_,_,z,_⟩:=I.mod.glob
   exact hsome (e ▸ (I.bs _ _ z).2)
 have hBA:s.heap.BuiltinsAt X.mg Pt:=by
   obtain⟨bm,ob,a1,a2,a3,a4,a5,a6⟩:=hB
   refine⟨bm,ob,a1,a2,fun e=>?_,fun e=>hsome (e ▸ (I.bs _ _ a3).2),(I.bs _ _ a3).1,a4,a5,a6⟩
   obtain⟨o,_,_,z,d,_⟩:=I.mod.glob
   rw [e,z] at a3;cases a3;rw [d] at a6;cases a6
 refine PySem.W.kla_eval hdef ?_
 rw [hq]
 obtain⟨ts,hP,hd⟩:=I.hok _ _ hT
 rcases hd with ⟨rfl,_⟩ | ⟨q,ln,cl,c',rfl,e2,e3,hrec⟩
 · refine PySem.W.kla_makeFunction (mg:=X.mg) hclos I.ok.glob hgs hcv C hP trivial rfl hgP hBA fun c' ctv h' tk hx hge hlt hrec htb=>?_
   refine I.after (abh (pos:=pos) I.hok hT (fun b o hb e=>Heap.get?_push_of_some _ (hx b o hb e)) (Heap.get?_push_of_some _ (by simpa using htb)) (hrec.push _) (Heap.get?_push_size _ rfl) (Nat.le_trans hge (Nat.le_of_lt hlt)) (.inl ⟨I.hok.fresh hge,hge⟩) I.bare fun H' np sb q1 q2 q3=>?_)
   exact h _ c' H' np sb q1 q2 q3
 · have e2':q=D.qual∧ln=rawInt pos.line∧cl=rawInt pos.col:=by
     rcases e2 with e2 | e2
     · have e2:=congrArg Array.toList e2
       simp [d8] at e2
       obtain⟨a,b,c⟩:=e2
       exact⟨a.symm,b.symm,c.symm⟩
     · have e2:=congrArg Array.toList e2
       simp [d8] at e2
   obtain⟨rfl,rfl,rfl⟩:=e2'
   refine PySem.W.kla_makeFunctionHit (mg:=X.mg) (cv:=.ref c') hclos I.ok.glob hgs hcv C hP trivial (by simp [codeAmong,rawInt]) hBA fun ctv h' tk hx hsz=>?_
   have hk:∀ b o,s.heap.get? b=some o→(h'.push { cls:=.type "function",data:=.func (kla_fn "<lambda>" D.qual D.params D.body D.scope (uE X.env D.ys) ((X.mg "__name__").getD .none) (.ref c') ctv) }).get? b=some o:=fun b o e=>Heap.get?_push_of_some _ (hx b o e)
   refine I.after (abh (pos:=pos) I.hok hT (fun b o _ e=>hk b o e) (hk _ _ hP) ?_ (Heap.get?_push_size _ rfl) hsz (.inr e3) I.bare fun H' np sb q1 q2 q3=>?_)
   · obtain⟨c2,o2,vs2,t2,e2,g2,r2⟩:=hrec
     cases e2
     exact⟨c',o2,vs2,t2,rfl,hk _ _ g2,r2⟩
   · exact h _ c' H' np sb q1 q2 q3
end L2
namespace L2
open PySem PySem.Spec PyProof.Rows PySem.Calls
open PySem.W (tabObj CodeHd kla_obj kla_fn)
def ov (O H:Hp):Hp:=fun b=>match O b with | some o=>some o | none=>H b
def Ur (O H H3:Hp):Hp:=fun b=>match O b with | some _=>H b | none=>H3 b
theorem En {O H:Hp}{b:Addr}{o:HO} (e:O b=some o):ov O H b=some o:=by unfold ov;rw [e]
theorem xO {O H:Hp}{b:Addr} (e:O b=none):ov O H b=H b:=by unfold ov;rw [e]
theorem mZ {O H H3:Hp}{b:Addr} (e:O b≠none):Ur O H H3 b=H b:=by
 unfold Ur
 cases q:O b with
 | none=>exact absurd q e
 | some o=>rfl
theorem xL {O H H3:Hp}{b:Addr} (e:O b=none):Ur O H H3 b=H3 b:=by unfold Ur;rw [e]
section
variable {X:Cx}{pins:List (Addr × Obj)}{σ:St}{H O:Hp}{s s':Shared}
theorem Inv.lend (I:Inv X pins σ H s) (fz:∀ b o,O b=some o→∃ ob u,o=.ud ob u∧s.heap.get? b=some ob∧∀ H',cI X.prog X.w H' s.heap b u)
   (own1:∀ b y,O b≠none→H b=some (.own y)→O y≠none) (res:∀ b o,O b≠none→H b=some o→∀ (H':Hp) (h':Heap),(∀ d ob,O d≠none→s.heap.get? d=some ob→h'.get? d=some ob)→(∀ d,O d≠none→H' d=H d)→cI X.prog X.w H' h' b o) (tup:∀ b xs,O b≠none→H b≠some (.tup xs))
   (bs:∀ b o,X.base.get? b=some o→O b=none) (fr:∀ b∈frs X.stack,O b=none) :
   wQ X.prog X.w X.K X.mg X.base X.A X.stack s (ov O H)∧∀ (Q:VK) (u:Value) (s':Shared),CE X.stack X.prog X.w (ov O H) s (fun v H3=>(∀ b o,O b=some o→H3 b=some o)→Q v (Ur O H H3)) u s'→CE X.stack X.prog X.w H s Q u s':=by
 have e0:=I.env0
 refine⟨⟨e0.frames,e0.mod,fun b o e=>⟨(e0.bs b o e).1,by rw [xO (bs b o e)];exact (e0.bs b o e).2⟩,e0.T6,e0.rW,fun b hb=>by rw [xO (fr b hb)];exact e0.Vs b hb,fun b o e=>?_,e0.bare⟩,fun Q u s' h=>?_⟩
 · cases q:O b with
   | some o' =>
     rw [En q] at e;cases e
     obtain⟨ob,u,rfl,g,k⟩:=fz b _ q
     exact⟨g,k _⟩
   | none =>
     rw [xO q] at e
     refine (I.hok b o e).stay (fun _ _ _ z=>z) (fun d z=>?_) fun d xs z=>?_
     · cases q2:O d with
       | none=>rw [xO q2];exact z
       | some _=>exact absurd q (own1 d b (by rw [q2];simp) z)
     · cases q2:O d with
       | none=>rw [xO q2];exact z
       | some _=>exact absurd z (tup d xs (by rw [q2];simp))
 · obtain⟨v,H3,os,bare,un,hok,r,q⟩:=h
   have same:∀ b o,O b=some o→H3 b=some o∧∃ ob u,o=.ud ob u∧s.heap.get? b=some ob∧s'.heap.get? b=some ob:=fun b o e=>by
     obtain⟨ob,u,rfl,g,_⟩:=fz b _ e
     have z:=un.pD b ob u (En e)
     exact⟨z,ob,u,rfl,g,(hok b _ z).1⟩
   refine⟨v,Ur O H H3,os,bare,⟨fun b o e n hb hx=>?_,fun b o e n hb hx=>?_,fun b o e n hx=>?_,un.there,fun b xs e=>?_,fun b o z e=>?_,fun b ps e=>?_⟩,fun b o e=>?_,r,q fun b o e=>(same b o e).1⟩
   · cases z:O b with
     | none=>exact un.keep b o e (by rw [xO z];exact n) hb hx
     | some o' =>
       obtain⟨_,ob,u,_,g1,g2⟩:=same b o' z
       rw [e] at g1;cases g1;exact g2
   · exact un.slot b o e (by rw [xO (fr b hb)];exact n) hb hx
   · cases z:O b with
     | none=>rw [xL z];exact un.free b o e (by rw [xO z];exact n) hx
     | some o'=>rw [mZ (by rw [z];simp)];exact n
   · cases z:O b with
     | none=>rw [xL z];exact un.tups b xs (by rw [xO z];exact e)
     | some o'=>exact absurd e (tup b xs (by rw [z];simp))
   · cases y:O b with
     | none=>rw [xL y];exact un.pD b o z (by rw [xO y];exact e)
     | some o'=>rw [mZ (by rw [y];simp)];exact e
   · cases y:O b with
     | none=>rw [xL y];exact un.pF b ps (by rw [xO y];exact e)
     | some o'=>rw [mZ (by rw [y];simp)];exact⟨#[],by rw [e];simp⟩
   · cases y:O b with
     | none =>
       rw [xL y] at e
       refine (hok b o e).stay (fun _ _ _ z=>z) (fun d z=>?_) fun d xs z=>?_
       · cases q2:O d with
         | none=>rw [xL q2];exact z
         | some o2 =>
           obtain⟨g,ob,u,rfl,_⟩:=same d o2 q2
           rw [z] at g;cases g
       · cases q2:O d with
         | none=>rw [xL q2];exact z
         | some o2 =>
           obtain⟨g,ob,u,rfl,_⟩:=same d o2 q2
           rw [z] at g;cases g
     | some o' =>
       have hb:O b≠none:=by rw [y];simp
       rw [mZ hb] at e
       refine res b o hb e _ _ (fun d ob hd ez=>?_) fun d hd=>mZ hd
       cases q2:O d with
       | none=>exact absurd q2 hd
       | some o2 =>
         obtain⟨_,ob,u,_,g1,g2⟩:=same d o2 q2
         rw [ez] at g1;cases g1;exact g2
end
structure Us (H H2:Hp) (Pt c':Addr) (q:Str) (cs:List (Str × Addr)) (ws:List V):Prop where
 code:Fz H2 c' (Nx c' q)
 nd:(cs.map (·.2)).Nodup
 cells:Paired (fun (y:Str × Addr) v=>Fz H2 y.2 (sr y.2 v)) cs ws
 keep:∀ b o,H b=some o→b≠Pt→b≠c'→H2 b=some o
structure Rest (H H3 H4:Hp) (Pt c':Addr):Prop where
 old:∀ b o,H b=some o→(b=Pt∨b=c'∨H3 b=some o)→H4 b=some o
 new:∀ b o,H3 b=some o→(∀ ob u,o≠.ud ob u)→H4 b=some o
theorem Us.same {H H2 H3 H4:Hp}{Pt c':Addr}{q:Str}{cs:List (Str × Addr)}{ws:List V} (L:Us H H2 Pt c' q cs ws) (e:aA H2 H3) (r:Rest H H3 H4 Pt c'):aA H H4:=fun b o z=>by
 by_cases h1:b=Pt
 · exact r.old b o z (.inl h1)
 by_cases h2:b=c'
 · exact r.old b o z (.inr (.inl h2))
 exact r.old b o z (.inr (.inr (e b o (L.keep b o z h1 h2))))
def Ww (h:Heap):List (Addr × V)→Hp
 | [],_=>none
 | (c,v)::r,b=>if b=c then (h.get? c).map fun o=>.ud o (sr c v) else Ww h r b
def Tj (h:Heap) (Pt c':Addr) (q:Str) (cv:List (Addr × V)):Hp:=fun b=>if b=Pt then (h.get? Pt).map fun o=>.ud o (.own Pt) else if b=c' then (h.get? c').map fun o=>.ud o (Nx c' q) else Ww h cv b
theorem xg {h:Heap}:∀ {cv:List (Addr × V)}{b:Addr}{o:HO},Ww h cv b=some o→∃ v ob,(b,v)∈cv∧h.get? b=some ob∧o=.ud ob (sr b v)
 | [],_,_,e=>by cases e
 | (c,v)::r,b,o,e=>by
   unfold Ww at e
   by_cases hb:b=c
   · rw [if_pos hb] at e
     subst hb
     cases q:h.get? b with
     | none=>rw [q] at e;cases e
     | some ob=>rw [q] at e;cases e;exact⟨v,ob,List.mem_cons_self,rfl,rfl⟩
   · rw [if_neg hb] at e
     obtain⟨v',ob,m,g⟩:=xg e
     exact⟨v',ob,List.mem_cons_of_mem _ m,g⟩
theorem Tn {h:Heap}:∀ {cs:List (Str × Addr)}{ws:List V},Paired (fun (y:Str × Addr) (v:V)=>∃ o,h.get? y.2=some o) cs ws→(cs.map (·.2)).Nodup→Paired (fun (y:Str × Addr) v=>Fz (Ww h ((cs.map (·.2)).zip ws)) y.2 (sr y.2 v)) cs ws
 | _,_,.nil,_=>.nil
 | _,_,@Paired.cons _ _ _ a b la lb r t,nd=>by
   have rO:=List.nodup_cons.mp nd
   obtain⟨o,ho⟩:=r
   refine .cons ⟨o,?_⟩ ?_
   · show (if a.2=a.2 then _ else _)=_
     rw [if_pos rfl,ho];rfl
   · have ih:=Tn t rO.2
     have aux:∀ {l1:List (Str × Addr)}{l2:List V},(∀ y∈l1,y∈la)→Paired (fun (y:Str × Addr) v=>Fz (Ww h ((la.map (·.2)).zip lb)) y.2 (sr y.2 v)) l1 l2→Paired (fun (y:Str × Addr) v=>Fz (Ww h (((a::la).map (·.2)).zip (b::lb))) y.2 (sr y.2 v)) l1 l2:=by
       intro l1 l2 hs hp
       induction hp with
       | nil=>exact .nil
       | @cons y v l1 l2 r t ih2 =>
         refine .cons ?_ (ih2 fun z hz=>hs z (List.mem_cons_of_mem _ hz))
         obtain⟨o,ho⟩:=r
         refine⟨o,?_⟩
         show (if y.2=a.2 then _ else Ww h ((la.map (·.2)).zip lb) y.2)=_
         rw [if_neg fun z=>rO.1 (by show a.2∈la.map (·.2);rw [← z];exact List.mem_map_of_mem (f:=(·.2)) (hs y List.mem_cons_self))]
         exact ho
     exact aux (fun y hy=>hy) ih
section
variable {X:Cx}
theorem Inv.abi {pins:List (Addr × Obj)}{σ:St}{H:Hp}{s:Shared} (I:Inv X pins σ H s) {D:jk}{Pt c':Addr}{pos:Pos}{is:List Nat}{ws:List V} (hT:H Pt=some (.iI (d8 D.qual pos ++ #[.ref c'])))
   (hfn:∀ y∈D.ys,X.fn y=true∧X.env.kindOf y=some .cell) (nd:D.ys.Nodup) (hN:Paired (fun (y:Str) i=>X.N[i]? = some y) D.ys is) (hw:Paired (fun i w=>σ[i]? = some (some w)) is ws) :
   ∃ H2,Us H H2 Pt c' D.qual (uE X.env D.ys) ws∧wQ X.prog X.w X.K X.mg X.base X.A X.stack s H2 ∧
     ∀ (Q:VK) (u:Value) (s':Shared),CE X.stack X.prog X.w H2 s (fun v H3=>∀ H4,Rest H H3 H4 Pt c'→Q v H4) u s'→CE X.stack X.prog X.w H s Q u s':=by
 obtain⟨ts,hP,hd⟩:=I.hok _ _ hT
 have hc':H c'=some (.own Pt)∧s.heap.CodeRec (.ref c') D.qual:=by
   rcases hd with ⟨_,q,ln,cl,e⟩ | ⟨q,ln,cl,c2,_,e2,e3,hrec⟩
   · have e:=congrArg Array.toList e;simp [d8] at e
   · rcases e2 with e | e
     · have e:=congrArg Array.toList e;simp [d8] at e
     · have e:=congrArg Array.toList e
       simp [d8] at e
       obtain⟨rfl,_,_,rfl⟩:=e
       exact⟨e3,hrec⟩
 obtain⟨m,hn,hl⟩:=I.loc
 have lk:∀ {y:Str},y∈D.ys→∃ c,X.env.cells.lookup y=some c∧(X.env.cells.lookup y).getD 0=c:=fun {y} hy=>by
   obtain⟨c,e⟩:=I.ok.has y (.inl (hfn y hy).2)
   exact⟨c,e,by rw [e];rfl⟩
 have cells:Paired (fun (y:Str × Addr) (v:V)=>y.1∈D.ys∧X.env.cells.lookup y.1=some y.2∧∃ u,RelV v u∧s.heap.IsCell y.2 (some u)) (uE X.env D.ys) ws:=by
   have aux:∀ (l:List Str) (is:List Nat) (ws:List V),(∀ y∈l,y∈D.ys)→Paired (fun (y:Str) i=>X.N[i]? = some y) l is→Paired (fun i w=>σ[i]? = some (some w)) is ws →
       Paired (fun (y:Str × Addr) (v:V)=>y.1∈D.ys∧X.env.cells.lookup y.1=some y.2∧∃ u,RelV v u∧s.heap.IsCell y.2 (some u)) (uE X.env l) ws:=by
     intro l is ws hs a b
     induction a generalizing ws with
     | nil=>cases b;exact .nil
     | cons r t ih =>
       cases b with
       | cons r2 t2 =>
         have hy:=hs _ List.mem_cons_self
         obtain⟨c,e1,e2⟩:=lk hy
         refine .cons ⟨hy,by show _=some ((X.env.cells.lookup _).getD 0);rw [e2];exact e1,?_⟩ (ih _ (fun z hz=>hs z (List.mem_cons_of_mem _ hz)) t2)
         obtain⟨u,ru,l⟩:=hl _ _ _ r r2 (.inr (.inl (hfn _ hy).2))
         rcases l with ⟨z,_⟩ | ⟨_,c2,e3,e4⟩
         · rw [(hfn _ hy).2] at z;cases z
         · rw [e1] at e3;cases e3
           exact⟨u,ru,by show s.heap.IsCell ((X.env.cells.lookup _).getD 0) _;rw [e2];exact e4⟩
   exact aux D.ys is ws (fun _ h=>h) hN hw
 have ndc:((uE X.env D.ys).map (·.2)).Nodup:=by
   have aux:∀ l:List Str,l.Nodup→(∀ y∈l,y∈D.ys)→((uE X.env l).map (·.2)).Nodup:=by
     intro l
     induction l with
     | nil=>intro _ _;exact List.nodup_nil
     | cons a l ih =>
       intro nd hs
       have rO:=List.nodup_cons.mp nd
       refine List.nodup_cons.mpr ⟨fun z=>?_,ih rO.2 fun y hy=>hs y (List.mem_cons_of_mem _ hy)⟩
       obtain⟨p,hp,e⟩:=List.mem_map.mp z
       obtain⟨y,hy,rfl⟩:=List.mem_map.mp hp
       obtain⟨c,e1,e2⟩:=lk (hs a List.mem_cons_self)
       obtain⟨d,e3,e4⟩:=lk (hs y (List.mem_cons_of_mem _ hy))
       have e:(X.env.cells.lookup y).getD 0=(X.env.cells.lookup a).getD 0:=e
       rw [e2,e4] at e
       subst e
       exact rO.1 (by rw [I.ok.inj a y d e1 e3];exact hy)
   exact aux D.ys nd fun _ h=>h
 have cellOf:∀ {b:Addr}{v:V},(b,v)∈((uE X.env D.ys).map (·.2)).zip ws→H b=none∧X.s₀.heap.objs.size≤b∧∃ u,RelV v u∧s.heap.IsCell b (some u):=fun {b v} hm=>by
   have aux:∀ {cs:List (Str × Addr)}{ws:List V},Paired (fun (y:Str × Addr) (v:V)=>y.1∈D.ys∧X.env.cells.lookup y.1=some y.2∧∃ u,RelV v u∧s.heap.IsCell y.2 (some u)) cs ws→(b,v)∈(cs.map (·.2)).zip ws →
       H b=none∧X.s₀.heap.objs.size≤b∧∃ u,RelV v u∧s.heap.IsCell b (some u):=by
     intro cs ws hp
     induction hp with
     | nil=>intro z;cases z
     | cons r t ih =>
       intro z
       rcases List.mem_cons.mp z with z | z
       · cases z
         exact⟨I.lA _ _ r.2.1,I.ok.cab _ _ (hfn _ r.1).1 r.2.1,r.2.2⟩
       · exact ih z
   exact aux cells hm
 generalize hO:Tj s.heap Pt c' D.qual (((uE X.env D.ys).map (·.2)).zip ws)=O
 have nPc:c'≠Pt:=by rintro rfl;rw [hT] at hc';cases hc'.1
 have oP:O Pt=some (.ud { cls:=.none,data:=.fields ts } (.own Pt)):=by
   rw [← hO];unfold Tj;rw [if_pos rfl,hP];rfl
 obtain⟨oc,hoc⟩:∃ oc,s.heap.get? c'=some oc:=by
   obtain⟨c2,o,vs,t,e,g,_⟩:=hc'.2
   cases e;exact⟨o,g⟩
 have oC:O c'=some (.ud oc (Nx c' D.qual)):=by
   rw [← hO];unfold Tj;rw [if_neg nPc,if_pos rfl,hoc];rfl
 have oX:∀ {b},b≠Pt→b≠c'→O b=Ww s.heap (((uE X.env D.ys).map (·.2)).zip ws) b:=fun {b} h1 h2=>by
   rw [← hO];unfold Tj;rw [if_neg h1,if_neg h2]
 have cls:∀ {b},O b≠none→b=Pt∨b=c'∨(H b=none∧X.s₀.heap.objs.size≤b∧∃ v,s.heap.IsCell b v):=fun {b} h=>by
   by_cases h1:b=Pt
   · exact .inl h1
   by_cases h2:b=c'
   · exact .inr (.inl h2)
   rw [oX h1 h2] at h
   cases q:Ww s.heap (((uE X.env D.ys).map (·.2)).zip ws) b with
   | none=>exact absurd q h
   | some o =>
     obtain⟨v,ob,hm,_⟩:=xg q
     obtain⟨g1,g2,u,_,g3⟩:=cellOf hm
     exact .inr (.inr ⟨g1,g2,_,g3⟩)
 have Tp:∀ {b:Addr}{u:HO},H b=some u→O b≠none→b=Pt∨b=c':=fun {b u} e h=>by
   rcases cls h with h | h | ⟨h,_⟩
   · exact .inl h
   · exact .inr h
   · rw [e] at h;cases h
 have f0:∀ b o,O b=some o→∃ ob u,o=.ud ob u∧s.heap.get? b=some ob∧∀ H',cI X.prog X.w H' s.heap b u:=fun b o e=>by
   by_cases h1:b=Pt
   · subst h1;rw [oP] at e;cases e
     exact⟨_,_,rfl,hP,fun _=>⟨_,hP⟩⟩
   by_cases h2:b=c'
   · subst h2;rw [oC] at e;cases e
     exact⟨_,_,rfl,hoc,fun _=>Ws hc'.2⟩
   rw [oX h1 h2] at e
   obtain⟨v,ob,hm,g,rfl⟩:=xg e
   obtain⟨_,_,u,ru,hcell⟩:=cellOf hm
   exact⟨_,_,rfl,g,fun _=>Ny ru hcell⟩
 have f1:∀ b y,O b≠none→H b=some (.own y)→O y≠none:=fun b y h1 h2=>by
   rcases Tp h2 h1 with rfl | rfl
   · rw [hT] at h2;cases h2
   · rw [hc'.1] at h2;cases h2;rw [oP];simp
 have f2:∀ b o,O b≠none→H b=some o→∀ (H':Hp) (h':Heap),(∀ d ob,O d≠none→s.heap.get? d=some ob→h'.get? d=some ob)→(∀ d,O d≠none→H' d=H d)→cI X.prog X.w H' h' b o:=fun b o h1 h2 H' h' k1 k2=>by
   have cP:O Pt≠none:=by rw [oP];simp
   have cC:O c'≠none:=by rw [oC];simp
   rcases Tp h2 h1 with rfl | rfl
   · rw [hT] at h2;cases h2
     refine⟨ts,k1 _ _ cP hP,?_⟩
     rcases hd with ⟨_,q,ln,cl,e⟩ | ⟨q,ln,cl,c2,z1,z2,z3,z4⟩
     · have e:=congrArg Array.toList e;simp [d8] at e
     · rcases z2 with e | e
       · have e:=congrArg Array.toList e;simp [d8] at e
       · have e':=congrArg Array.toList e
         simp [d8] at e'
         obtain⟨rfl,_,_,rfl⟩:=e'
         obtain⟨c3,o3,vs,t,e3,e4,e5⟩:=z4
         cases e3
         exact .inr ⟨_,ln,cl,c',z1,.inr e,by rw [k2 _ cC];exact z3,c',o3,vs,t,rfl,k1 _ _ cC e4,e5⟩
   · rw [hc'.1] at h2;cases h2
     exact⟨_,k1 _ _ cC hoc⟩
 have f3:∀ b xs,O b≠none→H b≠some (.tup xs):=fun b xs h1 h2=>by
   rcases Tp h2 h1 with rfl | rfl
   · rw [hT] at h2;cases h2
   · rw [hc'.1] at h2;cases h2
 have f4:∀ b o,X.base.get? b=some o→O b=none:=fun b o e=>by
   cases z:O b with
   | none=>rfl
   | some o' =>
     have hb:=(I.bs b o e).2
     rcases cls (b:=b) (by rw [z];simp) with rfl | rfl | ⟨_,g,_⟩
     · rw [hT] at hb;cases hb
     · rw [hc'.1] at hb;cases hb
     · exact absurd (Nat.lt_of_lt_of_le (Heap.lt_size e) (Nat.le_trans I.ok.T6 g)) (Nat.lt_irrefl _)
 have f5:∀ b∈frs X.stack,O b=none:=fun b hb=>by
   cases z:O b with
   | none=>rfl
   | some o' =>
     have hb':=I.J8 b hb
     rcases cls (b:=b) (by rw [z];simp) with rfl | rfl | ⟨_,g,v,o,g2,g3⟩
     · rw [hT] at hb';cases hb'
     · rw [hc'.1] at hb';cases hb'
     · rcases I.ok.stk with e | ⟨e,e2⟩
       · rw [e] at hb
         obtain⟨o2,e3,_⟩:=(I.ok.rW.mem hb).2
         exact absurd (Nat.lt_of_lt_of_le (Heap.lt_size e3) g) (Nat.lt_irrefl _)
       · rw [e] at hb
         have hb:b∈(X.env::X.outer).filterMap (·.frame):=hb
         rw [List.filterMap_cons_some e2] at hb
         rcases List.mem_cons.mp hb with rfl | hb
         · obtain⟨o3,es,ep,e4,e5,_⟩:=hn
           rw [g2] at e4;cases e4
           rw [g3] at e5;cases e5
         · obtain⟨o2,e3,_⟩:=(I.ok.rW.mem hb).2
           exact absurd (Nat.lt_of_lt_of_le (Heap.lt_size e3) g) (Nat.lt_irrefl _)
 obtain⟨E0,back⟩:=I.lend f0 f1 f2 f3 f4 f5
 refine⟨ov O H,⟨⟨oc,En oC⟩,ndc,?_,fun b o e h1 h2=>?_⟩,E0,fun Q u s' h=>back Q u s' ?_⟩
 · have hh:=Tn (h:=s.heap) (Paired.Zf cells fun y v q=>by
     obtain⟨_,_,u,_,o,g,_⟩:=q
     exact⟨o,g⟩) ndc
   have aux:∀ {l1:List (Str × Addr)}{l2:List V},Paired (fun (y:Str × Addr) (v:V)=>y.1∈D.ys∧X.env.cells.lookup y.1=some y.2∧∃ u,RelV v u∧s.heap.IsCell y.2 (some u)) l1 l2 →
       Paired (fun (y:Str × Addr) v=>Fz (Ww s.heap (((uE X.env D.ys).map (·.2)).zip ws)) y.2 (sr y.2 v)) l1 l2→Paired (fun (y:Str × Addr) v=>Fz (ov O H) y.2 (sr y.2 v)) l1 l2:=by
     intro l1 l2 a b
     induction a with
     | nil=>exact .nil
     | cons r t ih =>
       cases b with
       | cons r2 t2 =>
         refine .cons ?_ (ih t2)
         obtain⟨o,ho⟩:=r2
         have hf:=I.lA _ _ r.2.1
         refine⟨o,En ?_⟩
         rw [oX (by intro z;rw [z,hT] at hf;cases hf) (by intro z;rw [z,hc'.1] at hf;cases hf)]
         exact ho
   exact aux cells hh
 · cases q:O b with
   | none=>rw [xO q];exact e
   | some o' =>
     rcases Tp e (by rw [q];simp) with z | z
     · exact absurd z h1
     · exact absurd z h2
 · obtain⟨v,H3,os,bare,un,hok,r,q⟩:=h
   refine⟨v,H3,os,bare,un,hok,r,fun hs=>q _ ⟨fun b o e h=>?_,fun b o e h=>?_⟩⟩
   · cases z:O b with
     | some o'=>rw [mZ (by rw [z];simp)];exact e
     | none =>
       rw [xL z]
       rcases h with rfl | rfl | h
       · rw [oP] at z;cases z
       · rw [oC] at z;cases z
       · exact h
   · cases z:O b with
     | none=>rw [xL z];exact e
     | some o' =>
       obtain⟨ob,u,rfl⟩:∃ ob u,o'=.ud ob u:=by
         by_cases h1:b=Pt
         · subst h1;rw [oP] at z;cases z;exact⟨_,_,rfl⟩
         by_cases h2:b=c'
         · subst h2;rw [oC] at z;cases z;exact⟨_,_,rfl⟩
         rw [oX h1 h2] at z
         obtain⟨v,ob,_,_,rfl⟩:=xg z
         exact⟨_,_,rfl⟩
       have g:=hs b _ z
       rw [e] at g;cases g
       exact absurd rfl (h _ _)
end
section
variable {X:Cx}{k:Nat}{m:Str}{pos apos Ig:Pos}{e o:Expr}{es:List Expr}{ta:TE}{t:TA}
def acp (X:Cx) (k:Nat) (m:Str) (D:jk) (Pt:Addr) (Ig:Pos) (is:List Nat) (ta:TE) (t:TA):TE:=fun σ H Q=>ta σ H fun x H1=>∃ (a C dx:Addr) (fs:List (Str × V)) (M:dI X.prog X.w X.K X.mg X.base bQ k C m),x=.ref a∧H1 a=some (.ins C dx fs)∧fs.lookup m=none ∧
 t σ H1 fun vs H2=>∃ c' ws,H2 Pt=some (.iI (d8 D.qual Ig ++ #[.ref c']))∧Paired (fun i w=>σ[i]? = some (some w)) is ws ∧
   ∀ H3,Us H2 H3 Pt c' D.qual (uE X.env D.ys) ws→M.sp (x::(vs++M.rE)) H3 (fun y H4=>∀ H5,Rest H2 H4 H5 Pt c'→Q y H5) E0
theorem NB {D:jk}{Pt:Addr}{is:List Nat}{pl:Sem Bool} (hr:fD k X.A) (he:PE X o ta) (ha:PA X (e::es) t)
   (hfn:∀ y∈D.ys,X.fn y=true∧X.env.kindOf y=some .cell) (nd:D.ys.Nodup) (hN:Paired (fun (y:Str) i=>X.N[i]? = some y) D.ys is)
   (hst:starEach (e::es) X.env=(false,eval e X.env)::starEach es X.env:=by rfl) (hpl:(backTo pos (starEach es X.env)).any (·.1)=false:=by rfl)
   (ht:eval (.Call (.Attribute o m apos) (e::es) [] pos) X.env=(do
     let ov ← eval o X.env
     standAt apos.atName
     let (f,first) ← holding [ov] (getMethod ov m pl)
     callWith pos f first (backTo pos (starEach (e::es) X.env)) (backToKw pos (keywordEach [] X.env))):=by rfl) :
   PE X (.Call (.Attribute o m apos) (e::es) [] pos) (acp X k m D Pt Ig is ta t):=by
 intro pins s σ H Q I h
 refine PySem.W.methodCall_KW (pl:=pl) (d9 (he pins s σ H _ I h) fun u s1 zq=>?_) ht
 obtain⟨x,H1,I1,rx,a,C,dx,fs,M,ex,ea,l,q⟩:=zq
 subst ex
 obtain rfl:u=Value.ref a:=rx
 refine vy I1 ea M.c M.hm l ?_
 refine PySem.W.callWith_K (first:=[.ref a]) (h₀:=X.base) I.ok.mod.Zi M.hm.kp (d9 (ha pos pins s1 σ H1 _ I1 q) fun us s2 zq=>?_) hst hpl
 obtain⟨vs,H2,I2,r,c',ws,hT,hw,q2⟩:=zq
 refine⟨I2.Dd,?_⟩
 obtain⟨H3,L,e0,back⟩:=I2.abi hT hfn nd hN hw
 have h3:=q2 H3 L
 have r2:Vals ((.ref a::vs)++M.rE) ((.ref a::us)++M.ds):=Vals.append (.cons rfl r) M.hd
 have hl:((.ref a::us)++M.ds).length=M.ps.length:=by rw [← r2.length];exact M.F.len _ _ _ _ h3
 refine wpAny_call (codeAny_mono (M.F.run X.A X.stack s2 H3 ⟨.ref a::us,[]⟩ _ _ _ _ hr e0 (M.hb s2 (.ref a::us) I2.Dd hl) r2 h3) fun r s' hq=>?_)
 cases r with
 | error e=>exact False.elim hq
 | ok fl =>
   cases fl with
   | ret u=>exact I2.after (back Q u s' hq)
   | next=>exact False.elim hq
   | brk=>exact False.elim hq
   | cont=>exact False.elim hq
end
theorem aG.weak {P:Program}{w:World}{K:PySem.W.Frag}{mg:Str→Option Value}{base:Heap}{CX:HX}{k:Nat}{f:Addr}{fd:FuncData}{ps:List Str}{sp Fb:Sp}{Pt:Addr}{q:Str}{pos:Pos} (F:aG P w K mg base CX k f fd ps sp)
   (h:∀ vs H Q E,Fb vs H Q E→H Pt=some (.iI (d8 q pos))∧sp vs H (fun v H'=>(∃ c',H' Pt=some (.iI (d8 q pos ++ #[.ref c']))∧Q v (upd H' Pt (.iI (d8 q pos))))∨(H' Pt=some (.iI (d8 q pos))∧Q v H')) E):aG P w K mg base CX k f fd ps Fb:=by
 refine⟨fun vs H Q E z=>F.len _ _ _ _ (h vs H Q E z).2,fun A outer s H args us vs Q E hr e0 hb hv hs=>?_⟩
 obtain⟨hT,h2⟩:=h vs H Q E hs
 refine codeAny_mono (F.run A outer s H args us vs _ E hr e0 hb hv h2) fun r s' z=>?_
 cases r with
 | error e=>exact z
 | ok fl =>
   cases fl with
   | next=>exact z
   | brk=>exact z
   | cont=>exact z
   | ret u =>
     obtain⟨v,H',os,bare,un,hok,rv,z⟩:=z
     rcases z with ⟨c',hT',z⟩ | ⟨_,z⟩
     · have ne:∀ {b:Addr}{o:HO},H' b=some o→(∀ ps,o≠.iI ps)→b≠Pt:=fun {b o} e n=>by rintro rfl;rw [hT'] at e;cases e;exact n _ rfl
       have neH:∀ {b:Addr}{o:HO},H b=some o→(∀ ps,o≠.iI ps)→b≠Pt:=fun {b o} e n=>by rintro rfl;rw [hT] at e;cases e;exact n _ rfl
       refine⟨v,upd H' Pt (.iI (d8 q pos)),os,bare,⟨un.keep,un.slot,fun b o e n hx=>?_,un.there,fun b xs e=>?_,fun b o y e=>?_,fun b qs e=>?_⟩,fun b o e=>?_,rv,z⟩
       · rw [zI (by rintro rfl;rw [hT] at n;cases n)];exact un.free b o e n hx
       · rw [zI (neH e fun _ z=>by cases z)];exact un.tups b xs e
       · rw [zI (neH e fun _ z=>by cases z)];exact un.pD b o y e
       · by_cases hb:b=Pt
         · subst hb
           rw [hT] at e;cases e
           exact⟨#[],by rw [zB];simp⟩
         · rw [zI hb];exact un.pF b qs e
       · by_cases hb:b=Pt
         · subst hb
           rw [zB] at e;cases e
           obtain⟨ts,g,d⟩:=hok _ _ hT'
           refine⟨ts,g,?_⟩
           rcases d with ⟨_,q',ln,cl,e⟩ | ⟨q',ln,cl,c2,e1,e2,e3,e4⟩
           · have e:=congrArg Array.toList e;simp [d8] at e
           · rcases e2 with e | e
             · have e:=congrArg Array.toList e;simp [d8] at e
             · have e:=congrArg Array.toList e
               simp [d8] at e
               obtain⟨rfl,rfl,rfl,rfl⟩:=e
               exact .inr ⟨_,_,_,_,e1,.inl rfl,by rw [zI (ne e3 fun _ z=>by cases z)];exact e3,e4⟩
         · rw [zI hb] at e
           refine (hok b o e).stay (fun _ _ _ z=>z) (fun d z=>?_) fun d xs z=>?_
           · rw [zI (ne z fun _ y=>by cases y)];exact z
           · rw [zI (ne z fun _ y=>by cases y)];exact z
     · exact⟨v,H',os,bare,un,hok,rv,z⟩
section
variable {P:Program}{w:World}{K:PySem.W.Frag}{mg:Str→Option Value}{base:Heap}
theorem fJ.okC {x qual:Str}{st:Stmt}{f:Addr}{fd:FuncData}{N ps:List Str}{k:Nat}{sp:Sp} (F:fJ K x qual st f fd) (S:au N ps (aa st)) (len:∀ vs H Q E,sp vs H Q E→vs.length=ps.length)
   (hbody:∀ (cdv:Value) (A:Around) (outer:List Env) (s:Shared) (H:Hp) (vs:List V) (Q:VK) (E:XK),fd.code=cdv→fD k (A.deeper (envOfC qual (aa st) s.heap.objs.size f cdv))→sp vs H Q E →
     ∃ t,m6 (Kg bQ P w K mg base N qual (aa st) f cdv A outer s H E).Ej (aj st) t∧t { nx:=fun _ H'=>Q .non H',rt:=Q } (start N vs) H):aG P w K mg base bQ (k+1) f fd ps sp:=by
 obtain⟨oc,od,kV,doc,pm,an,cdv,ct,osl,rfl,lk,hcd⟩:=F.ex
 refine SN lk hcd S len fun A outer s H vs Q E hr hsp=>?_
 obtain⟨t,h,q⟩:=hbody cdv A outer s H vs Q E rfl hr hsp
 exact⟨t,h.Ej,q⟩
end
end L2
namespace L2
open PySem PySem.Spec PyProof.Rows PySem.Calls
section
variable {X:Cx}
theorem Wx (hc:X.calm=true):cg X (.builtin "any") (fun xs H Q=>∃ (p:Addr) (bs:List Bool),xs=[.ref p]∧bR X.K H p (bs.map V.bl)∧Q (.bl (bs.any id)) H):=by
 intro pins s σ H xs us Q I r h
 obtain⟨p,bs,rfl,hq,q⟩:=h
 obtain⟨u,rfl,ru⟩:=vals1 r
 cases ru
 obtain⟨its,rv,pl,hz⟩:=I.list hq
 have hlt:p<s.heap.objs.size:=by obtain⟨o,n,e,_⟩:=pl;exact Heap.lt_size e
 refine call_any_walk (wpAny_pyIter_list pl.isList ?_)
 refine⟨_,_,_,_,_,_,fun i=>bs.getD i false,rfl,Walks.list (show X.A.in1.handled=none from I.ok.hd hc) s.heap.objs.size p (Nat.ne_of_lt hlt) its.toArray,⟨⟨_,Heap.get?_push_size _ rfl,rfl,rfl⟩,pl.isList.push _⟩,fun i v s1 Q1 E1 hP hQ=>?_,fun h' tk k=>?_⟩
 · have hP':its[i]? = some v:=by simpa using hP
   obtain⟨hi,_⟩:=List.getElem?_eq_some_iff.mp hP'
   have hl:=rv.length
   rw [List.length_map] at hl
   have hb:(bs.map V.bl)[i]? = some (V.bl (bs.getD i false)):=by
     rw [List.getElem?_map,List.getElem?_eq_getElem (by omega)]
     simp [List.getD,List.getElem?_eq_getElem (show i<bs.length by omega)]
   obtain⟨u,hu,ru⟩:=rv.get hb
   rw [hP'] at hu
   cases hu
   cases (show v=Value.bool _ from ru)
   exact wpAny_truthy_bool hQ
 · have e:(List.range its.toArray.size).any (fun i=>bs.getD i false)=bs.any id:=by
     have hl:=rv.length
     rw [List.length_map] at hl
     rw [List.size_toArray,← hl]
     have z:bs=(List.range bs.length).map fun i=>bs.getD i false:=by
       apply List.ext_getElem?
       intro i
       rw [List.getElem?_map]
       by_cases hi:i<bs.length
       · simp [List.getElem?_eq_getElem,hi,List.getD]
       · rw [List.getElem?_eq_none (Nat.not_lt.mp hi),List.getElem?_eq_none (by rw [List.length_range];exact Nat.not_lt.mp hi)];rfl
     conv=>rhs;rw [z]
     rw [List.any_map];rfl
   rw [e]
   refine⟨.bl (bs.any id),H,?_,rfl,q⟩
   have I0:Inv X pins σ H { s with heap:=s.heap.push { cls:=.type "list_iterator",data:=.fields #[.ref p,.int 0 0] } }:=I.kept (t':=s.toks) fun b o e=>Heap.get?_push_of_some _ e
   have fo:=I.MK (H':=H) (b:=s.heap.objs.size) (Nat.le_refl _) I.fresh
   obtain⟨f0,f1,f2,f3,f4,f5⟩:=fo
   exact I0.turned (t':=tk) (it:=s.heap.objs.size) (fun b o hb e=>k b o (by simpa using hb) e) f0 f1 f3 f4 f5
def acq (ta:TE):TE:=fun σ H Q=>ta σ H fun x H1=>(∃ c,x=.bl c∧Q (.bl (!c)) H1)∨(x=.non∧Q (.bl true) H1)
theorem ZZ {a:Expr}{ta:TE}{pos:Pos} (ha:PE X a ta):PE X (.UnaryOp .Not a pos) (acq ta):=by
 intro pins s σ H Q I h
 refine UnaryOp_ (d9 (ha pins s σ H _ I h) fun v s1 zq=>?_)
 obtain⟨x,H1,I1,r1,q1⟩:=zq
 rcases q1 with ⟨c,rfl,q1⟩ | ⟨rfl,q1⟩
 · cases r1
   exact not_of (wpAny_truthy_bool ⟨.bl (!c),H1,I1,rfl,q1⟩)
 · cases r1
   exact not_of (truthy_none ⟨.bl true,H1,I1,rfl,q1⟩)
end
end L2
namespace L2
open PySem PySem.Spec PyProof.Rows PySem.Calls
section
variable {X:Cx}
end
end L2
namespace L2
open PySem PySem.Spec
theorem rF {X:Cx}{s:Stmt}:PS X s (fun _ _ _=>False):=fun _ _ _ _ _ _ h=>h.elim
end L2
namespace L2
open PySem PySem.Spec PyProof.Rows PySem.Calls
section
variable {X:Cx}
end
end L2
namespace L2
open PySem PySem.Spec PyProof.Rows PySem.Calls
section
variable {X:Cx}
theorem Wy {e:Expr}:PE X e (fun _ _ _=>False):=fun _ _ _ _ _ _ h=>h.elim
end
theorem Eo {b:List Nat}{c:Nat}:∀ {a:List Nat},c∉a→(a++c::b).dropWhile (· != c)=c::b
 | [],_=>by simp
 | x::r,h=>by
   have hx:x≠c:=fun e=>h (by rw [e];exact List.mem_cons_self)
   have hr:c∉r:=fun e=>h (List.mem_cons_of_mem _ e)
   rw [List.cons_append,List.dropWhile_cons_of_pos (by simp [hx])]
   exact Eo hr
end L2
namespace L2
open PySem PySem.Spec PyProof.Rows PySem.Calls
section
variable {X:Cx}{scope:Scope}{x y:Str}{M:List Str}{tg elt iter:Expr}{ifs:List Expr}{pos p1 p2 p3:Pos}{kk:Nat}{te:TE}{wi:TI}{tc:TT}{g:TG}
end
end L2
namespace L2
open PySem PySem.Spec PyProof.Rows PySem.Calls
end L2
namespace L2
open PySem PySem.Spec PyProof.Rows PySem.Calls
section
variable {X:Cx}{pins:List (Addr × Obj)}{σ:St}{H:Hp}{s:Shared}{h':Heap}
end
section
variable {X:Cx}{ea eb:Expr}{t:TA}{p pos tp:Pos}{elts:List Expr}{x1:Nat}
end
end L2
namespace L2
open PySem PySem.Spec PyProof.Rows PySem.Calls
end L2
namespace L2
open PySem PySem.Spec PyProof.Rows PySem.Calls
section
variable {X:Cx}{scope:Scope}{x:Str}{M:List Str}{pins:List (Addr × Obj)}{σ:St}{H₂:Hp}{s₂:Shared}{elt iter tg:Expr}{ifs:List Expr}{pos px:Pos}{te:TE}{wi:TI}{g:TG}{tc:TT}
def Z0 (wi:TI) (g:TG) (tc:TT) (te:TE):TE:=fun σ H Q=>wi σ H fun J H1=>∃ (n:Nat) (W:Nat→List V→Hp→Prop),n≤sizeLine∧W 0 [] H1∧∀ i ys H,i≤n→ys.length≤i→W i ys H →
 (J.stop i H∧∀ p,H p=none→Q (.ref p) (upd H p (.lst ys)))∨(J.go i H∧i<n∧∀ x H',J.PJ i H x H'→∀ u,g x (u::σ) H' fun ρ H2=>(∃ u',ρ=u'::σ)∧tc ρ H2 fun c H3=>if c=true then te ρ H3 fun z H4=>W (i+1) (ys++[z]) H4 else W (i+1) ys H3)
theorem NK (K:cZ X scope x M) (hc:X.calm=true) (I:Inv X pins σ H₂ s₂) (hg:∀ (C:Addr) (s₂:Shared) (H₂:Hp) (fp:List Addr),PG (dM X scope C x M s₂ H₂ fp) tg g) (ht:∀ (C:Addr) (s₂:Shared) (H₂:Hp) (fp:List Addr),Ie (dM X scope C x M s₂ H₂ fp) ifs tc) (he:∀ (C:Addr) (s₂:Shared) (H₂:Hp) (fp:List Addr),PE (dM X scope C x M s₂ H₂ fp) elt te)
   {it:Addr}{fp:List Addr}{tn:Nat→Heap→Prop}{J:It} (T:Turn X.prog X.w X.K tg J fp it tn) (st:tn 0 s₂.heap) (hf:∀ b∈fp,mK X pins H₂ b) {n:Nat} (hsz:n≤sizeLine) {W:Nat→List V→Hp→Prop}{F:List V→Hp→Prop}
   (w0:W 0 [] H₂) (turn:∀ i ys H,i≤n→ys.length≤i→W i ys H→(J.stop i H∧F ys H)∨(J.go i H∧i<n∧∀ x H',J.PJ i H x H'→∀ u,g x (u::σ) H' fun ρ H2=>(∃ u',ρ=u'::σ)∧tc ρ H2 fun c H3=>if c=true then te ρ H3 fun z H4=>W (i+1) (ys++[z]) H4 else W (i+1) ys H3))
   {E:Value→Shared→Prop}{RR:Value→Addr→Result→Shared→Prop}
   (hRR:∀ (D C:Addr) (s':Shared) (H':Hp) (ys:List V) (m:Str→Option Value),Inv X pins σ (upd H' D (.lst ys)) s'→H' D=none→mK X pins (upd H' D (.lst ys)) C→s'.heap.Ns C m→F ys H'→RR (.ref D) C (.ok .next) s') :
   wpAny (model X.prog X.w) X.A (newList []) (fun acc s₃=>wpAny (model X.prog X.w) X.A (newFunctionEnv scope X.env.globals (iQ X.env scope.names []) [] X.env.qual none .none (some X.env)) (fun cenv s₄ =>
     codeAny (model X.prog X.w) X.A (.compStart (.ListComp elt [⟨tg,iter,ifs,0⟩] scope pos) 0 (.ref it) acc { cenv with scope:=relabel scope X.env }) (RR acc cenv.locals) s₄) E s₃) E s₂:=by
 refine wpAny_newObj_type (wpAny_newFunctionEnv K.cell (by intro y hy;simp at hy) (fun h₁ hns₁ hsb₁=>?_) K.kind)
 dsimp only at hns₁ hsb₁ ⊢
 generalize hH2:s₂.heap.push { cls:=.type "list",dict:=none,data:=.seq ([]:List Value).toArray } = H2 at hns₁ hsb₁ ⊢
 have hC:H2.objs.size=s₂.heap.objs.size+1:=by rw [← hH2,Heap.size_push]
 have hDC:s₂.heap.objs.size≠H2.objs.size:=by rw [hC];exact Nat.ne_of_lt (Nat.lt_succ_self _)
 have below:∀ b,b<s₂.heap.objs.size→b≠H2.objs.size∧b≠s₂.heap.objs.size:=fun b hb=>⟨by rw [hC];exact Nat.ne_of_lt (Nat.lt_succ_of_lt hb),Nat.ne_of_lt hb⟩
 have hfl:∀ b∈fp,b<s₂.heap.objs.size:=fun b hb=>by obtain⟨o,e,_⟩:=T.obj _ _ st b hb;exact Heap.lt_size e
 have old:∀ b o,s₂.heap.get? b=some o→h₁.get? b=some o:=fun b o e=>hsb₁.extBut b o (below b (Heap.lt_size e)).1 (Heap.get?_push_of_some _ (hH2 ▸ Heap.get?_push_of_some _ e))
 have hacc:h₁.get? s₂.heap.objs.size=some { cls:=.type "list",data:=.seq ([]:List Value).toArray 0 }:=hsb₁.extBut _ _ hDC (Heap.get?_push_of_some _ (hH2 ▸ Heap.get?_push_size _ rfl))
 generalize hCC:H2.objs.size=C at *
 generalize uY:s₂.heap.objs.size=D at *
 have hCle:s₂.heap.objs.size≤C:=by rw [uY,hC];exact Nat.le_succ _
 have st₁:tn 0 h₁:=T.keep _ _ _ st fun b _ o e=>old b o e
 have I₁:=Fj (t:=s₂.toks+([]:List (Str × Value)).length) K I hf (fun b hb=>by rw [uY];exact hfl b hb) hCle hns₁ old
 generalize hX':dM X scope C x M s₂ H₂ fp=X' at I₁
 have eX:X'.prog=X.prog∧X'.w=X.w∧X'.K=X.K∧X'.calm=true∧X'.A=X.A∧X'.ex=fp∧X'.env=compEnvC scope (iQ X.env scope.names []) C X.env∧X'.s₀=s₂∧X'.pn=[]:=by
   subst hX';exact⟨rfl,rfl,rfl,hc,rfl,rfl,rfl,rfl,rfl⟩
 obtain⟨eP,ew,eK,ec,eA,eex,Di,es0,V9⟩:=eX
 have eL:X'.env.locals=C:=by rw [Di];rfl
 have cells':∀ y c,X'.env.cells.lookup y=some c→X.env.cells.lookup y=some c:=fun y c e=>by rw [Di] at e;exact cZ.uX e
 have efs:X'.fs=frs X.stack:=by subst hX';rfl
 have wX:∀ b∈X'.fs,b=X.env.locals∨b∈X.fs:=fun b hb=>List.mem_cons.mp (I.zy b (by rw [← efs];exact hb))
 have Fo:∀ {pn:List (Addr × Obj)}{H':Hp},(∀ p∈pn,p.1=D)→(∀ b∈fp,H' b=none)→∀ b∈fp,mK X' pn H' b:=fun {pn H'} hp hn b hb=>by
   refine⟨hn b hb,?_,fun z=>?_,.inl (by rw [eex];exact hb),fun y c e=>(hf b hb).2.2.2.2.1 y c (cells' y c e),fun p hq=>?_⟩
   · rw [eL];exact (below b (hfl b hb)).1
   · rcases wX b z with q | q
     · exact (hf b hb).2.1 q
     · exact (hf b hb).2.2.1 q
   · rw [V9,List.nil_append] at hq
     rw [hp p hq];exact Ne.symm (below b (hfl b hb)).2
 have Dfp:D∉fp:=fun z=>Nat.lt_irrefl _ (hfl D z)
 have Ng:X.env.locals<D:=by have:=I.lt;rw [uY] at this;exact this
 have Wa:∀ b∈X.fs,b<D:=fun b hb=>Nat.lt_of_not_le fun z=>I.Zk (a:=b) (by rw [uY];exact z) hb
 have Nh:∀ {b:Addr}{pn:List (Addr × Obj)}{H':Hp},D≤b→b≠C→H' b=none→(∀ p∈pn,p.1≠b)→mK X' pn H' b:=fun {b pn H'} hb hbC hn hp=>by
   refine⟨hn,by rw [eL];exact hbC,fun z=>?_,.inr (by rw [es0,uY];exact hb),fun y c e=>?_,fun p hq=>?_⟩
   · rcases wX b z with q | q
     · rw [q] at hb;exact absurd (Nat.lt_of_lt_of_le Ng hb) (Nat.lt_irrefl _)
     · exact absurd (Nat.lt_of_lt_of_le (Wa b q) hb) (Nat.lt_irrefl _)
   · obtain⟨v,o,ho,_⟩:=I.cell y c (cells' y c e)
     have:=Heap.lt_size ho
     rw [uY] at this
     exact Nat.ne_of_lt (Nat.lt_of_lt_of_le this hb)
   · rw [V9,List.nil_append] at hq
     exact hp p hq
 have outer:∀ {σ':St}{H':Hp}{s':Shared}{pn:List (Addr × Obj)},Inv X' pn σ' H' s'→Inv X pins σ H' s':=fun {σ' H' s' pn} J'=>by
   subst hX'
   refine I.call' (ch:=fp) J'.os J'.base J'.hok J'.bare fun b hb=>?_
   obtain⟨f0,f1,f2,f3,f4,f5⟩:=hf b hb
   exact⟨f3,f1,f4,f5⟩
 have Ci:∀ {b:Addr}{H':Hp},D≤b→H' b=none→mK X pins H' b:=fun {b H'} hb hn=>by
   have q:=I.MK (H':=H') (b:=b) (by rw [uY];exact hb) hn
   exact q
 have loop:∀ s₃:Shared,s₃={ s₂ with heap:=h₁,toks:=s₂.toks+([]:List (Str × Value)).length } →
     codeAny (model X.prog X.w) X.A (.compLoop (.ListComp elt [⟨tg,iter,ifs,0⟩] scope pos) 0 (.ref it) (.ref D) (compEnvC scope (iQ X.env scope.names []) C X.env)) (RR (.ref D) C) s₃:=by
   rintro s₃ rfl
   refine xf (fun k s'=>∃ (i:Nat) (ys:List V) (its:List Value) (σ0:Option V) (H':Hp),i≤n∧k=n+1 - i∧ys.length≤i∧Inv X' [] (σ0::σ) H' s'∧tn i s'.heap∧(∀ b∈fp,H' b=none)∧H' D=none∧Vals ys its ∧
     (∃ c,s'.heap.get? D=some { cls:=.type "list",data:=.seq its.toArray c })∧W i ys H') ?_ (n+1) ⟨0,[],[],none,H₂,Nat.zero_le _,rfl,Nat.le_refl _,I₁,st₁,fun b hb=>(hf b hb).1,by rw [← uY];exact I.hok.fresh (Nat.le_refl _),.nil,⟨0,hacc⟩,w0⟩
   rintro k s' ⟨i,ys,its,σ0,H',hi,rfl,hyl,I',st',fr',hD',rv,⟨c,hobj⟩,w'⟩
   rcases turn i ys H' hi hyl w' with ⟨stop,fin⟩ | ⟨go,hlt,step⟩
   · have Fp:Inv X' [(D,{ cls:=.type "list",data:=.seq its.toArray c })] (σ0::σ) H' s':=I'.gH fun p hp=>by
       obtain rfl:p=(D,{ cls:=.type "list",data:=.seq its.toArray c }):=by simpa using hp
       refine⟨hobj,hD',?_,?_,fun v z=>nomatch z⟩
       · rw [eL];exact hDC
       · intro z
         rcases wX D z with q | q
         · rw [q] at Ng;exact Nat.lt_irrefl _ Ng
         · exact Nat.lt_irrefl _ (Wa D q)
     have q:=T.done X' eP ew eK ec i _ s' (σ0::σ) H' (notedBy (model X.prog X.w) X.A (compEnvC scope (iQ X.env scope.names []) C X.env) fun e s'=>RR (.ref D) C (.error e) s') Fp (Fo (fun p hp=>by obtain rfl:p=(D,{ cls:=.type "list",data:=.seq its.toArray c }):=(by simpa using hp);rfl) fr') st' stop
     rw [eA] at q
     refine wpAny_mono q (fun r s4 ⟨hr,I4⟩=>?_) fun _ _ z=>z
     subst hr
     obtain⟨e4,n4,_⟩:=I4.pin (D,{ cls:=.type "list",data:=.seq its.toArray c }) (List.mem_append_right _ (by simp))
     have O4:=outer I4
     obtain⟨m4,ns4,_⟩:=I4.loc
     rw [eL] at ns4
     refine hRR D C s4 H' ys m4 (O4.track (Ci (Nat.le_refl _) n4) (Nat.le_trans I.sz (by rw [uY];exact Nat.le_refl _)) ⟨Nat.le_trans hyl (Nat.le_trans hi hsz),its,c,rv,e4⟩) n4 (Ci (by rw [hC];exact Nat.le_succ _) ?_) ns4 fin
     rw [zI (Ne.symm hDC)]
     have:=I4.free
     rw [eL] at this
     exact this
   · have Fp:Inv X' [(D,{ cls:=.type "list",data:=.seq its.toArray c })] (σ0::σ) H' s':=I'.gH fun p hp=>by
       obtain rfl:p=(D,{ cls:=.type "list",data:=.seq its.toArray c }):=by simpa using hp
       refine⟨hobj,hD',?_,?_,fun v z=>nomatch z⟩
       · rw [eL];exact hDC
       · intro z
         rcases wX D z with q | q
         · rw [q] at Ng;exact Nat.lt_irrefl _ Ng
         · exact Nat.lt_irrefl _ (Wa D q)
     have pd:∀ p∈[(D,({ cls:=.type "list",data:=.seq its.toArray c }:Obj))],p.1=D:=fun p hp=>by obtain rfl:p=(D,{ cls:=.type "list",data:=.seq its.toArray c }):=(by simpa using hp);rfl
     have q:=T.item X' eP ew eK ec i _ s' (σ0::σ) H' (notedBy (model X.prog X.w) X.A (compEnvC scope (iQ X.env scope.names []) C X.env) fun e s'=>RR (.ref D) C (.error e) s') Fp (Fo pd fr') st' go
     rw [eA] at q
     refine wpAny_mono q (fun r s4 ⟨u,hr,h4⟩=>?_) fun _ _ z=>z
     subst hr
     refine wpAny_mono h4 (fun _ s5 ⟨xv,H5,I5,r5,y5,Kd,fr5⟩=>?_) fun _ _ z=>z
     have I5':=I5.pinned (Fo pd fr5) (T.obj _ _ Kd)
     rw [← Di]
     have g6:=step xv H5 y5 σ0
     have q6:=(hg C s₂ H₂ fp) (([(D,({ cls:=.type "list",data:=.seq its.toArray c }:Obj))])++qw fp s5.heap) s5 (σ0::σ) H5 xv u _ (by rw [hX'];exact I5') r5 g6
     rw [hX',eP,ew,eA] at q6
     refine wpAny_mono q6 (fun _ s6 ⟨ρ,H6,I6,⟨u',eρ⟩,t6⟩=>?_) (fun _ _ z=>by subst hX';exact (show False from z).elim)
     subst eρ
     have q7:=(ht C s₂ H₂ fp) _ s6 (u'::σ) H6 _ (by rw [hX'];exact I6) t6
     rw [hX',eP,ew,eA] at q7
     refine wpAny_mono q7 (fun ok s7 ⟨H7,I7,w7⟩=>?_) (fun _ _ z=>by subst hX';exact (show False from z).elim)
     have agi:∀ {s8:Shared}{H8:Hp}{pn:List (Addr × Obj)},Inv X' (pn++(([(D,({ cls:=.type "list",data:=.seq its.toArray c }:Obj))])++qw fp s5.heap)) (u'::σ) H8 s8→True:=fun _=>trivial
     cases ok with
     | false =>
       obtain⟨e7,n7,_⟩:=I7.pin (D,{ cls:=.type "list",data:=.seq its.toArray c }) (List.mem_append_right _ (List.mem_append_left _ (by simp)))
       refine⟨n+1 - (i+1),by omega,i+1,ys,its,u',H7,hlt,rfl,Nat.le_succ_of_le hyl,I7.gH (Ew:=[]) fun p hp=>absurd hp (by simp),?_,fun b hb=>?_,n7,rv,⟨c,e7⟩,w7⟩
       · refine T.keep _ _ _ Kd fun b hb o e=>?_
         exact (I7.pin (b,o) (List.mem_append_right _ (List.mem_append_right _ (yR hb e)))).1
       · obtain⟨o,e,d⟩:=T.obj _ _ Kd b hb
         exact (I7.pin (b,o) (List.mem_append_right _ (List.mem_append_right _ (yR hb e)))).2.1
     | true =>
       have q8:=(he C s₂ H₂ fp) _ s7 (u'::σ) H7 (fun z PL=>W (i+1) (ys++[z]) PL) (by rw [hX'];exact I7) w7
       rw [hX',eP,ew,eA] at q8
       refine wpAny_mono q8 (fun u8 s8 ⟨v8,H8,I8,r8,w8⟩=>?_) (fun _ _ z=>by subst hX';exact (show False from z).elim)
       obtain⟨e7,n7,_⟩:=I8.pin (D,{ cls:=.type "list",data:=.seq its.toArray c }) (List.mem_append_right _ (List.mem_append_left _ (by simp)))
       refine append_at (hsz:=by rw [List.size_toArray,← rv.length];exact Nat.le_trans hyl (Nat.le_trans hi hsz)) e7 fun h8 sb8 g8=>?_
       have I9:Inv X' [] (u'::σ) H8 { s8 with heap:=h8,toks:=s8.toks }:=(I8.gH (Ew:=[]) fun p hp=>absurd hp (by simp)).turned (t':=s8.toks) (it:=D) (fun b o hb e=>(sb8.2 b hb).trans e) n7 (by rw [eL];exact hDC) (.inr (by rw [es0,uY];exact Nat.le_refl _))
         (Nh (H':=H8) (pn:=[]) (Nat.le_refl _) hDC n7 (fun p hp=>absurd hp (by simp))).2.2.2.2.1 (fun p hp=>by rw [V9] at hp;exact absurd hp (by simp))
       refine⟨n+1 - (i+1),by omega,i+1,ys++[v8],its++[u8],u',H8,hlt,rfl,by rw [List.length_append,List.length_singleton];omega,I9,?_,fun b hb=>?_,n7,rv.append (.cons r8 .nil),⟨c+1,?_⟩,w8⟩
       · refine T.keep _ _ _ Kd fun b hb o e=>?_
         have e':=(I8.pin (b,o) (List.mem_append_right _ (List.mem_append_right _ (yR hb e)))).1
         exact (sb8.2 b (fun z=>Dfp (z ▸ hb))).trans e'
       · obtain⟨o,e,d⟩:=T.obj _ _ Kd b hb
         exact (I8.pin (b,o) (List.mem_append_right _ (List.mem_append_right _ (yR hb e)))).2.1
       · rw [g8,List.push_toArray]
 exact codeAny_compStart_list (loop _ rfl) (T.self X.A 0 _ _ _ st₁ (loop _ rfl))
structure Wz (J:It) (tc:TT) (te:TE) (σ:St) (H1:Hp) (Q:VK):Prop where
 ex:∃ (n:Nat) (W:Nat→List V→Hp→Prop),n≤sizeLine∧W 0 [] H1∧∀ i ys H,i≤n→ys.length≤i→W i ys H →
   (J.stop i H∧∀ p,H p=none→Q (.ref p) (upd H p (.lst ys)))∨(J.go i H∧i<n∧∀ z H',J.PJ i H z H'→tc (some z::σ) H' fun c H3=>if c=true then te (some z::σ) H3 fun z H4=>W (i+1) (ys++[z]) H4 else W (i+1) ys H3)
def acr (wi:TI) (tc:TT) (te:TE):TE:=fun σ H Q=>wi σ H fun J H1=>Wz J tc te σ H1 Q
theorem Z1 (K:cZ X scope x M) {C:Addr}{s₂:Shared}{H₂:Hp}{fp:List Addr}:PG (dM X scope C x M s₂ H₂ fp) (.Name x px) (bU 0) :=
 yP K.nd rfl (.inl (lookup_relabel_local K.loc)) (.inr (lookup_relabel_local K.loc))
theorem NP {X:Cx}{ifs:List Expr}{t u:TT} (h:Ie X ifs t) (e:t=u):Ie X ifs u:=e ▸ h
end
theorem FQ {K:PySem.W.Frag}{a:Addr}{xs:List V}{tc:TT}{te:TE}{σ:St}{H:Hp}{Q:VK} (hz:xs.length≤sizeLine) (W:Nat→List V→Hp→Prop) (h0:W 0 [] H) (hq:∀ i ys H,W i ys H→bR K H a xs)
   (hs:∀ i x ys H,xs[i]? = some x→ys.length≤i→W i ys H→tc (some x::σ) H fun c H3=>if c=true then te (some x::σ) H3 fun z H4=>W (i+1) (ys++[z]) H4 else W (i+1) ys H3)
   (hd:∀ ys H,W xs.length ys H→∀ p,H p=none→Q (.ref p) (upd H p (.lst ys))):Wz (Vj K a) tc te σ H Q:=by
 refine⟨xs.length,W,hz,h0,fun i ys H hi hl hw=>?_⟩
 have q:=hq i ys H hw
 by_cases hlt:i<xs.length
 · refine .inr ⟨⟨xs,xs[i],q,by simp [hlt]⟩,hlt,fun v H' y=>?_⟩
   obtain⟨e,y⟩:=y
   subst e
   exact hs i v ys _ (y xs q) hl hw
 · have e:i=xs.length:=by omega
   subst e
   exact .inl ⟨⟨xs,q,Nat.le_refl _⟩,hd ys H hw⟩
section
variable {X:Cx}{k:Nat}{m:Str}{pos apos:Pos}{o:Expr}{ta:TE}
end
end L2
namespace L2
open PySem PySem.Spec PyProof.Rows PySem.Calls
section
variable {X:Cx}{ea:Expr}{t:TA}{p pos tp:Pos}{elts:List Expr}{x1:Nat}
end
end L2
namespace L2
open PySem PySem.Spec PyProof.Rows PySem.Calls
section
variable {X:Cx}
theorem Tq (hu:X.A.units+1<cLine):iw X (compareOp .In) (fun x y H Q=>∃ a o,y=.ref a∧gr H a x o∧Q (.bl o.isSome) H):=by
 intro pins s σ H x y v u Q I rx ry h
 obtain⟨a,o,rfl,g,q⟩:=h
 cases ry
 exact atx hu I g rx fun s' I'=>⟨.bl _,H,I',rfl,q⟩
theorem FT (hu:X.A.units+1<cLine):iw X (compareOp .NotIn) (fun x y H Q=>∃ a o,y=.ref a∧gr H a x o∧Q (.bl (!o.isSome)) H):=by
 intro pins s σ H x y v u Q I rx ry h
 obtain⟨a,o,rfl,g,q⟩:=h
 cases ry
 exact ZF hu I g rx fun s' I'=>⟨.bl _,H,I',rfl,q⟩
end
theorem Z2:typeLookup (.type "list") "keys" = pure none:=by rw [typeLookup_type,builtinLookup_eq_fast];kernel_rfl
theorem WD {prog:Program}{w:World}{A:Around}{E:Value→Shared→Prop}{s:Shared}{a:Addr}{xs:Array Value}{k:Nat}{sl:Array (Option Value)}{Q:Option Value→Shared→Prop}
   (hx:s.heap.get? a=some ⟨.type "list",none,.seq xs k,sl⟩) (hA:A.handled=none) (h:∀ h' tk e,Heap.NewExcOf s.heap h' e "AttributeError"→Q none { s with heap:=h',toks:=tk }) :
   wpAny (model prog w) A (getAttr? (.ref a) "keys") Q E s:=by
 obtain⟨hp,g,d,tk,os⟩:=s
 have ty:∀ j,(⟨hp,g,d,j,os⟩:Shared).TypeIs (.ref a) "list":=fun _=>⟨_,hx,rfl⟩
 have a1:=sub_AttributeError
 have a3:=PySem.F.slot_list_getattribute.lookup
 have a4:=PySem.F.slot_list_getattribute.bind (.ref a)
 have a5:=am_list_getattr_none
 unfold getAttr? getAttrBy? getAttrBy
 repeat (any_goals (first
   | assumption
   | exact ty _
   | ((with_reducible show wpAny _ _ (call (Value.builtin "list.__getattribute__") _ _) _ _ _)
      refine call_meets PySem.F.slot_list_getattribute (ty _) am_entry_list_getattribute (PySem.F.args_list_getattribute_2 _ _) (meets_getattribute_miss_list a xs k sl "keys" _ Z2 (by decide) (by size_fits)) ⟨hx,hA,fun h' tk' e hx'=>?_⟩)
   | wp_step))
 obtain⟨t',u',he⟩:=hx'.there
 show wpAny _ _ (getattributeRaised _ _ _ _ _ _ _) _ _ _
 unfold getattributeRaised hookOrError
 repeat (any_goals (first | assumption | wp_step))
 exact h _ _ _ hx'.of
theorem WK:entryFor table "dict.update.loop" = some Builtin.«dict.update.loop»:=entryFor_of_tree (by kernel_rfl)
theorem Ih {X:Cx} (hc:X.calm=true):cg X (.type "dict") (fun xs H Q=>∃ p,xs=[.ref p]∧H p=some (.lst [])∧∀ d,H d=none→Q (.ref d) (upd H d (.dK []))):=by
 intro pins s σ H xs us Q I r h
 obtain⟨p,rfl,hp,q⟩:=h
 obtain⟨u,rfl,ru⟩:=r.one
 cases ru
 obtain⟨_,its,n,rv,ho⟩:=(show cI X.prog X.w H s.heap p (.lst []) from I.hok p _ hp)
 cases rv
 have big:=I.big
 have hand:X.A.handled=none:=I.ok.hd hc
 refine callType_codes (Q₁:=fun obj s₁=>obj=.ref s.heap.objs.size∧s₁={ s with heap:=s.heap.push { cls:=.type "dict",data:=.dict #[] } }) PySem.F.kt_called_dict (PySem.F.kt_typeCall_dict_1 _) PySem.F.entry_dict_init (kt_code_dict_new _ ⟨rfl,rfl⟩) ?_
 rintro obj s₁ ⟨rfl,rfl⟩
 have new:(s.heap.push { cls:=.type "dict",data:=.dict #[] }).DictOf (dh X.prog X.w) s.heap.objs.size []:=Heap.DictOf.new s.heap
 refine⟨new.typeIs,PySem.F.args_dict_init_2 _ _,?_⟩
 unfold Builtin.«dict.__init__» Builtin.Dict.selfAndRest
 refine wpAny_bind (wpAny_bind (wpAny_notOrdered_dict new.typeIs ?_))
 show wpAny _ _ (pure (s.heap.objs.size,[Value.ref p])) _ _ _
 refine wpAny_pure ?_
 show wpAny _ _ (Builtin.Dict.updateFrom "dict.__init__" _ (.ref p) [] .none) _ _ _
 unfold Builtin.Dict.updateFrom
 have ho1:=Heap.get?_push_of_some { cls:=.type "dict",data:=.dict #[] } ho
 refine wpAny_bind (wpAny_typeOf (T:="list") ⟨_,ho1,rfl⟩ ?_)
 rw [if_pos (by decide)]
 refine wpAny_bind (WD ho1 (show X.A.in1.in1.handled=none from hand) fun h1 tk1 e1 x1=>?_)
 rw [if_pos (by rfl)]
 have ho2:=x1.keeps _ _ ho1
 have hl2:h1.IsList p #[]:=⟨_,ho2,rfl,n,rfl⟩
 refine wpAny_bind (wpAny_rule (wpAny_bind (wpAny_pyIter_list (s:={ s with heap:=h1,toks:=tk1 }) hl2 ?_)))
 refine wpAny_pure ⟨plainId_quiet (by symm) _,codeAny_builtin WK ?_⟩
 have it:(h1.push { cls:=.type "list_iterator",data:=.fields #[.ref p,.int 0 0] }).IsListIter h1.objs.size p 0:=⟨_,Heap.get?_push_size _ rfl,rfl,rfl⟩
 have hl3:(h1.push { cls:=.type "list_iterator",data:=.fields #[.ref p,.int 0 0] }).IsList p #[]:=⟨_,Heap.get?_push_of_some _ ho2,rfl,n,rfl⟩
 unfold Builtin.«dict.update.loop»
 refine wpAny_bind (wpAny_pyNext_list_end (i:=0) (l:=p) (items:=#[]) (by first | exact hand | (rw [Around.under_plainId (by symm)];exact hand)) it hl3 (by rfl) fun h2 x2=>?_)
 show wpAny _ _ (Builtin.Dict.addKeywords s.heap.objs.size [] >>= _) _ _ _
 have kk:∀ b o,(s.heap.push { cls:=.type "dict",data:=.dict #[] }).get? b=some o→h2.get? b=some o:=fun b o e=>by
   have e1:=x1.keeps b o e
   exact x2 b o (Nat.ne_of_lt (Heap.lt_size e1)) (Heap.get?_push_of_some _ e1)
 exact wpAny_bind (wpAny_pure (wpAny_pure ⟨rfl,.ref s.heap.objs.size,_,I.laid (a:=s.heap.objs.size) (o:=.dK []) (h':=h2) (t':=tk1) (fun b o e=>kk b o (Heap.get?_push_of_some _ e)) (Nat.le_refl _) ⟨Nat.zero_le _,beq_eq_false_iff_ne.mpr (Ne.symm (Nat.ne_of_lt big)),[],.nil,new.keep kk⟩,rfl,q _ (I.hok.fresh (Nat.le_refl _))⟩))
end L2
namespace L2
open PySem PySem.Spec PySem.Calls PyProof.Rows
def Qt (h:Heap) (d:Addr) (es:Array DictEntry) (ep:Nat):Prop:=∃ o,h.get? d=some o∧o.ExactDict∧o.data=.dict es ep
theorem Qt.keep {h h':Heap}{d:Addr}{es:Array DictEntry}{ep:Nat} (x:Qt h d es ep) (k:∀ o,h.get? d=some o→h'.get? d=some o):Qt h' d es ep:=let ⟨o,ho,r⟩:=x; ⟨o,k o ho,r⟩
theorem Qt.lt {h:Heap}{d:Addr}{es:Array DictEntry}{ep:Nat} (x:Qt h d es ep):d<h.objs.size:=let ⟨_,ho,_⟩:=x;Heap.lt_size ho
section
variable {prog:Program}{w:World}{A:Around}{E:Value→Shared→Prop}{s:Shared}{d it:Addr}{es:Array DictEntry}{ep i:Nat}
theorem Qt.ty (x:Qt s.heap d es ep):s.TypeIs (.ref d) "dict":=let ⟨o,ho,c,_⟩:=x; ⟨o,ho,c.1⟩
end
section
variable {X:Cx}{pos:Pos}
end
end L2
namespace L2
open PySem PySem.Spec PySem.Calls PySem.W PyProof.Rows
inductive Qu (n:Nat) {α:Type} (R:α→Prop):KasT α→Prop
 | ret {a:α}:R a→Qu n R (.ret a)
 | ask {i j:Nat}{k:Bool→KasT α}:i<n→j<n→(∀ b,Qu n R (k b))→Qu n R (.ask i j k)
theorem Qu.bind {n:Nat}{α β:Type}{R:α→Prop}{S:β→Prop}{f:α→KasT β}{t:KasT α} (h:Qu n R t) (k:∀ a,R a→Qu n S (f a)):Qu n S (t.bind f):=by
 induction h with
 | ret r=>exact k _ r
 | ask hi hj _ ih=>exact .ask hi hj ih
def PlG (n:Nat) (p:Array Nat):Prop:=p.size=n∧∀ x∈p,x<n
theorem PlG.at {n:Nat}{p:Array Nat} (h:PlG n p) (hn:0<n) (k:Nat):p.getD k 0<n:=by
 rw [Array.getD_eq_getD_getElem?]
 by_cases hk:k<p.size
 · rw [Array.getElem?_eq_getElem hk];exact h.2 _ (Array.getElem_mem hk)
 · rw [Array.getElem?_eq_none (by omega)];exact hn
end L2
namespace L2
open PySem PySem.Spec PySem.Calls PySem.W PyProof.Rows
section
variable {prog:Program}{w:World}{A:Around}{E:Value→Shared→Prop}{s:Shared}
def acs (h:Heap) (v:Value):Prop:=∃ x o q t tq tt m,v=.ref x∧h.get? x=some o∧o.cls=.type "tuple"∧o.data=.seq #[.str q tq,.str t tt] m
theorem acs.keep {h h':Heap}{v:Value} (x:acs h v) (k:∀ b o,h.get? b=some o→o.cls=.type "tuple"→h'.get? b=some o):acs h' v:=let ⟨a,o,q,t,tq,tt,m,e,ho,hc,r⟩:=x; ⟨a,o,q,t,tq,tt,m,e,k _ _ ho hc,hc,r⟩
end
end L2
namespace L2
open PySem PySem.Spec PyProof.Rows PySem.Calls
section
variable {X:Cx}{scope:Scope}{x y z:Str}{M:List Str}{elt iter:Expr}{ifs:List Expr}{pos p1 p2 p3 p4:Pos}{kk:Nat}{te:TE}{wi:TI}{tc:TT}
structure ao7 (K:PySem.W.Frag) (J:It) (tc:TT) (te:TE) (σ:St) (H1:Hp) (Q:VK):Prop where
 ex:∃ (n:Nat) (W:Nat→List V→Hp→Prop),n≤sizeLine∧W 0 [] H1∧∀ i ys H,i≤n→ys.length≤i→W i ys H →
   (J.stop i H∧∀ p,H p=none→Q (.ref p) (upd H p (.lst ys)))∨(J.go i H∧i<n∧∀ z H',J.PJ i H z H'→∃ (p:Addr) (a b d:V),z=.ref p∧dH K H' p [a,b,d]∧tc (some a::some b::σ) H' fun c H3=>if c=true then te (some a::some b::σ) H3 fun z H4=>W (i+1) (ys++[z]) H4 else W (i+1) ys H3)
end
end L2
namespace L2
open PySem PySem.Spec PyProof.Rows PySem.Calls PySem.W PySem.Builtin PySem.Builtin.ObjectAttr PySem.Builtin.Getset_descriptor
structure atJ (K:PySem.W.Frag) (D:Addr) (f:Str):Prop where
 ga:findIn K (.ref D) "__getattribute__" = some (some (.builtin "BaseException.__getattribute__"))
 gk:findIn K (.ref D) "__getattr__" = some none
 hd:hasDictIn K D=true
 at_:findIn K (.ref D) f=some none
 mb:mroIn K D (.type "BaseException")=some true
section
variable {prog:Program}{w:World}{A:Around}{E:Value→Shared→Prop}{s:Shared}{K:PySem.W.Frag}{x D:Addr}{ox:Obj}{od:Obj}{name:Str}{v:Value}
def WL:List Value→Bool
 | .ref _::r=>WL r
 | l=>l == aba
structure atL (K:PySem.W.Frag) (D:Addr) (f:Str):Prop where
 sa:findIn K (.ref D) "__setattr__" = some (some (.builtin "object.__setattr__"))
 hd:hasDictIn K D=true
 at_:findIn K (.ref D) f=some none
 mr:(clsIn K D).any (fun cd=>WL cd.mro)=true
 mo:mroIn K D (.type "object")=some true
end
end L2
namespace L2
open PySem PySem.Spec PyProof.Rows PySem.Calls PySem.W PySem.Builtin PySem.Builtin.ObjectAttr PySem.Builtin.Getset_descriptor
def acu (K:PySem.W.Frag) (C:Addr):Bool:=match K.lookup C with
 | some ⟨.type "type",_,.cls cd,sl⟩=>(match cd.mro,sl.toList with
   | .ref C'::bm,[_,_,_,_,some (.builtin n),_]=>C' == C && n == "ValueError.__new__" && !cd.hasDel && tailIn K aba bm
   | _,_=>false)
 | _=>false
section
variable {prog:Program}{w:World}{A:Around}{E:Value→Shared→Prop}{s:Shared}{K:PySem.W.Frag}{C fI:Addr}
end
end L2
namespace L2
open PySem PySem.Spec PyProof.Rows PySem.Calls PySem.W PySem.Builtin PySem.Builtin.ObjectAttr PySem.Builtin.Getset_descriptor
structure aB0 (K:PySem.W.Frag) (C:Addr):Prop where
 rd:PySem.W.readsIn K C (.type "type")=true
 at_:PySem.W.findCls K (.ref C) (.type "type") "__init__" = some (.val (.builtin "ValueError.__init__"))
 sp:PySem.W.specialIn K (.ref C) "__getattribute__" = some (some (.builtin "type.__getattribute__"))
section
variable {X:Cx}{pos apos np:Pos}{e:Expr}{es:List Expr}{t:TA}{x:Str}{C0:Addr}
end
end L2
namespace L2
open PySem PySem.Spec PyProof.Rows PySem.Calls PySem.W PySem.Builtin
section
variable {X:Cx}{pins:List (Addr × Obj)}{σ:St}{H:Hp}{s:Shared}{o value:Expr}{f:Str}{pos pos':Pos}{ta tv:TE}
end
section
variable {P:Program}{w:World}{K:PySem.W.Frag}{mg:Str→Option Value}{base:Heap}{N:List Str}{qual:Str}{scope:Scope}{f:Addr}{cdv:Value}{A:Around}{outer:List Env}{s:Shared}{H:Hp}{E:XK}
end
end L2
namespace L2
open PySem PySem.Spec PyProof.Rows PySem.Calls PySem.W PySem.Builtin
section
variable {P:Program}{w:World}{K:PySem.W.Frag}{mg:Str→Option Value}{base:Heap}{N:List Str}{qual:Str}{scope:Scope}{f:Addr}{cdv:Value}{A:Around}{outer:List Env}{s:Shared}{H:Hp}{E:XK}
structure MkX (K:PySem.W.Frag) (C f:Addr):Prop where
 ex:acu K C=true
 init:PySem.W.findIn K (.ref C) "__init__" = some (some (.ref f))
 fn:PySem.W.isFn K (.ref f)=true
 kp:PySem.W.keepIn K (.ref C)=true
end
end L2
namespace L2
open PySem PySem.Spec PyProof.Rows PySem.Calls
section
variable {X:Cx}
variable {tg:Expr}
end
end L2
namespace L2
open PySem PySem.Spec PyProof.Rows PySem.Calls PySem.W
section
variable {K:PySem.W.Frag}{C A0 fI:Addr}{xo:Value}{xd:Option Addr}{cd cdA:ClassData}{sl:Array (Option Value)}
end
section
variable {X:Cx}{scope:Scope}{x:Str}{M:List Str}{pins:List (Addr × Obj)}{σ:St}{H₂:Hp}{s₂:Shared}{elt iter tg:Expr}{ifs:List Expr}{pos px:Pos}{te:TE}{wi:TI}{g:TG}{tc:TT}
theorem Ut {i:Nat}{y:Str}{spos py:Pos} (hN:X.N.Nodup) (hy:X.N[i]? = some y) (hl:Loc X.env.scope y) (K:cZ X scope x M) (hc:X.calm=true) (hi:PI X tg iter wi) (hg:∀ (C:Addr) (s₂:Shared) (H₂:Hp) (fp:List Addr),PG (dM X scope C x M s₂ H₂ fp) tg g) (ht:∀ (C:Addr) (s₂:Shared) (H₂:Hp) (fp:List Addr),Ie (dM X scope C x M s₂ H₂ fp) ifs tc) (he:∀ (C:Addr) (s₂:Shared) (H₂:Hp) (fp:List Addr),PE (dM X scope C x M s₂ H₂ fp) elt te)
   (hsw:swapsWith (.ListComp elt [⟨tg,iter,ifs,0⟩] scope pos) (some (.Name y py)) spos.line X.env=pure true)
   (hs:∀ x,foldedSetIterable iter X.env x=pure x) (hf:X.fn y=true∨X.env.scope.names.lookup y=some .local) :
   PS X (.Assign [.Name y py] (.ListComp elt [⟨tg,iter,ifs,0⟩] scope pos) spos) (T9 (Z0 wi g tc te) (bU i)):=by
 intro pins s σ H Dn I h
 rw [exec_Assign_Name_used _ _ _ _ hsw]
 refine wpAny_bind (wpAny_standAt (wpAny_bind ?_))
 show wpAny _ X.A (do let _ ← comprehension (.ListComp elt [⟨tg,iter,ifs,0⟩] scope pos) scope X.env _ (newList []) false (eval iter X.env) (some (assign (.Name y py) X.env))) _ _ s
 refine wpAny_bind (d9 (wpAny_comprehension_free (use:=some (assign (.Name y py) X.env)) (Q:=fun _ s'=>SP X pins Dn .next s') rfl hs (K.closure I.ok) K.kind K.names (d9 (hi pins s σ H _ I h) fun v s1 h1=>d9 h1 fun itv s2 h2=>?_)) fun _ s' hq=>wpAny_pure (wpAny_pure hq))
 obtain⟨it,fp,tn,J,H2,e,I2,T,st2,f2,n,W,hsz,w0,turn⟩:=h2
 subst e
 refine NK (RR:=fun acc C=>compPost (model X.prog X.w) X.A X.xe (some (assign (.Name y py) X.env)) (fun _ s'=>SP X pins Dn .next s') acc C) K hc I2 hg ht he T st2 f2 hsz (F:=fun ys H=>∀ p,H p=none→Dn.nx (σ.set i (some (.ref p))) (upd H p (.lst ys))) w0 turn ?_
 intro D C s' H' ys m I' n' fC ns fin
 refine wpAny_assign_Name (zz (v:=.ref D) I' hN hy hl rfl (fun s'' I'' ch=>?_) hf)
 obtain⟨f0,f1,f2,f3,f4,f5⟩:=fC
 obtain⟨a,sb1,ha⟩:=ch
 have hCa:C≠a:=by
   rcases ha with z | z
   · rw [z];exact f1
   · exact Ne.symm (f4 y a z)
 refine⟨m,ns.sameBut sb1 hCa,fun h' sb=>?_⟩
 exact⟨_,_,I''.turned (t':=s''.toks) (it:=C) (fun b o hb e=>(sb.2 b hb).trans e) f0 f1 f3 f4 f5,fin D n'⟩
theorem NQ {i:Nat}{y:Str}{spos py px:Pos} (hN:X.N.Nodup) (hy:X.N[i]? = some y) (hl:Loc X.env.scope y) (K:cZ X scope x M) (hc:X.calm=true) (hi:PI X (.Name x px) iter wi) (ht:∀ (C:Addr) (s₂:Shared) (H₂:Hp) (fp:List Addr),Ie (dM X scope C x M s₂ H₂ fp) ifs tc) (he:∀ (C:Addr) (s₂:Shared) (H₂:Hp) (fp:List Addr),PE (dM X scope C x M s₂ H₂ fp) elt te)
   (hsw:swapsWith (.ListComp elt [⟨.Name x px,iter,ifs,0⟩] scope pos) (some (.Name y py)) spos.line X.env=pure true:=by rfl)
   (hs:∀ x,foldedSetIterable iter X.env x=pure x:=by intro _;rfl) (hf:X.fn y=true∨X.env.scope.names.lookup y=some .local:=by first | exact .inl rfl | exact .inr rfl | assumption) :
   PS X (.Assign [.Name y py] (.ListComp elt [⟨.Name x px,iter,ifs,0⟩] scope pos) spos) (T9 (acr wi tc te) (bU i)):=by
 intro pins s σ H D I h
 have q:=Ut (pos:=pos) (spos:=spos) hN hy hl K hc (wi:=fun σ0 H0 R0=>∃ R,wi σ0 H0 R∧∀ J H1,R J H1→R0 J H1) (wZ hi fun σ H R ⟨R1,a,b⟩=>⟨R1,a,b⟩) (fun C s₂ H₂ fp=>Z1 (px:=px) K) ht he hsw hs hf pins s σ H D I
 refine q ⟨_,h,fun J H1 r=>?_⟩
 obtain⟨n,W,h1,h2,h3⟩:=r.ex
 refine⟨n,W,h1,h2,fun i ys H' hi hy hw=>?_⟩
 rcases h3 i ys H' hi hy hw with hq | ⟨g1,g2,g3⟩
 · exact .inl hq
 · exact .inr ⟨g1,g2,fun z H2 hz u=>⟨⟨_,rfl⟩,g3 z H2 hz⟩⟩
end
end L2
namespace L2
open PySem PySem.Spec PyProof.Rows PySem.Calls
section
variable {X:Cx}{o:Expr}{to:TE}{apos cpos tp:Pos}{elts:List Expr}{x1:Nat}
end
end L2
namespace L2
open PySem PySem.Spec PyProof.Rows PySem.Calls
section
variable {X:Cx}
end
theorem PS.Ej {X:Cx}{st:Stmt}{t:TS} (h:PS X.Ej st t):PS X st t:=fun pins s σ H D I hw =>
 wpAny_mono (h pins s σ H D (I.wish _) hw) (fun _ _ q=>q.lM) fun _ _ z=>False.elim z
end L2
namespace L2
open PySem PySem.Spec PyProof.Rows PySem.Calls
section
variable {M:Model}{A:Around}{E:Value→Shared→Prop}{s:Shared}
end
section
variable {P:Program}{w:World}{K:PySem.W.Frag}{mg:Str→Option Value}{base:Heap}{N:List Str}{qual:Str}{scope:Scope}{f:Addr}{cdv:Value}{A:Around}{outer:List Env}{s:Shared}{H:Hp}{E:XK}
end
section
variable {P:Program}{w:World}{K:PySem.W.Frag}{mg:Str→Option Value}{base:Heap}
end
end L2
namespace L2
open PySem PySem.Spec PyProof.Rows PySem.Calls
end L2
namespace L2
open PySem PySem.Spec PyProof.Rows PySem.Calls
end L2
namespace L2
open PySem PySem.Spec PyProof.Rows PySem.Calls
section
variable {P:Program}{w:World}{H:Hp}{h:Heap}{a:Addr}{kvs:List (Option Key × V)}
end
def agk:Value→V
 | .none=>.non
 | .bool b=>.bl b
 | .int i _=>.int i
 | .str x _=>.str x
 | .bytes b _=>.Sv b
 | .float b _=>.flt b
 | .ref a=>.ref a
 | .type n=>.ty n
 | _=>.non
theorem RelV.back {x:V}{v:Value} (r:RelV x v):x=agk v:=by
 cases x with
 | non=>cases (show v=Value.none from r);rfl
 | bl b=>cases (show v=Value.bool b from r);rfl
 | int i=>obtain⟨t,rfl⟩:=r;rfl
 | str i=>obtain⟨t,rfl⟩:=r;rfl
 | Sv i=>obtain⟨t,rfl⟩:=r;rfl
 | flt i=>obtain⟨t,rfl⟩:=r;rfl
 | ref i=>cases (show v=Value.ref i from r);rfl
 | ty i=>cases (show v=Value.type i from r);rfl
section
variable {X:Cx}{pos:Pos}
end
section
variable {X:Cx}{o:Expr}{to:TE}{apos cpos tp:Pos}{elts:List Expr}{x1:Nat}
end
section
variable {P:Program}{w:World}{a:Addr}{o:Obj}{kvs:List (Option Key × V)}{σ:St}{H:Hp}
end
section
variable {X:Cx}{tg:Expr}
end
end L2
namespace L2
open PySem PySem.Spec PySem.Calls PySem.W PyProof.Rows
section
variable {X:Cx}{pos:Pos}{P:Program}{w:World}
end
section
variable {X:Cx}{CX:HX}{k:Nat}{E:XK}{m:Str}{pos apos:Pos}{o:Expr}{ta:TE}{P:Program}{w:World}{K:PySem.W.Frag}{mg:Str→Option Value}{base:Heap}
end
end L2
namespace L2
open PySem PySem.Spec PyProof.Rows PySem.Calls
section
variable {X:Cx}{ea tg:Expr}{t:TA}{p pos:Pos}
end
section
variable {X:Cx}
theorem Ep:rM X (fun x lo hi H Q=>∃ a xs,x=.ref a∧dH X.K H a xs∧((HT.gq xs.length 0 lo=0∧HT.gq xs.length xs.length hi=xs.length)∧Q (.ref a) H∨¬ (HT.gq xs.length 0 lo=0∧HT.gq xs.length xs.length hi=xs.length)∧∀ p,H p=none→Q (.ref p) (upd H p (.tup (pG xs lo hi))))):=by
 intro pins s σ H x v vl vu lo hi sl Q I rx hs pl pu h
 obtain⟨a,xs,rfl,hx,q⟩:=h
 rcases q with ⟨hw,q⟩ | ⟨hw,q⟩
 · cases rx
   obtain⟨its,r,ht,hz⟩:=I.tuple hx
   have hlen:its.toArray.size=xs.length:=by rw [List.size_toArray];exact r.length.symm
   refine⟨"tuple",_,PyProof.Rows.slot_tuple_getitem.lookup,ht.typeIs,?_⟩
   exact HT.uD ht hs pl pu (by rw [hlen];exact hw) ⟨.ref a,H,I,rfl,q⟩
 · exact ab0 pins s σ H (.ref a) v vl vu lo hi sl Q I rx hs pl pu ⟨a,xs,rfl,hx,hw,q⟩
end
end L2
namespace L2
open PySem PySem.Spec PyProof.Rows PySem.Calls
end L2
namespace L2
open PySem PySem.Spec PyProof.Rows PySem.Calls
section
variable {X:Cx}{pins:List (Addr × Obj)}{σ:St}{A:Around}{E:Value→Shared→Prop}{a:Addr}
end
end L2
namespace L2
open PySem PySem.Spec PyProof.Rows PySem.Calls
theorem Qv {α:Type} (a:Array α) (p:α→Bool) (h:a.size≤1):¬ (a.filter p).size > 1:=by
 have:=Array.size_filter_le (p:=p) (xs:=a)
 omega
theorem Uu {X:Cx}{A:Around}{E:Value→Shared→Prop}{s:Shared}{nm:String}{d p:Addr}{od o:Obj}{epd ep:Nat}{en:DictEntry}{b:Addr}{Q:Unit→Shared→Prop} (hdo:d≠p) (hoS:(p == sysModules)=false)
   (hod:s.heap.get? d=some od) (hdd:od.data=.dict #[] epd) (hoo:s.heap.get? p=some o) (hdo':o.data=.dict #[en] ep) (hk:en.key=.ref b) (hT:s.TypeIs (.ref b) "tuple")
   (h:Q () { s with heap:=s.heap.update d (Obj.mapDictKeys fun _=>#[en]) }):wpAny (model X.prog X.w) A (Builtin.Dict.mergeDict nm d p) Q E s:=by
 unfold Builtin.Dict.mergeDict
 rw [if_neg (by simpa using hdo)]
 unfold Builtin.Dict.showsAll
 rw [if_neg (by rw [hoS];exact Bool.false_ne_true)]
 refine wpAny_bind (wpAny_pure ?_)
 refine wpAny_bind (wpAny_dictEntries hoo hdo' ?_)
 have hfew:(decide (#[en].size≤8) && #[en].all fun e=>(keyPart e.key).isSome)=false:=by simp [hk,keyPart]
 dsimp only
 rw [hfew]
 simp only [Bool.not_false,if_true]
 refine wpAny_bind (wpAny_dictEntries hod hdd ?_)
 rw [if_pos (by rfl)]
 refine wpAny_bind ?_
 unfold Builtin.Dict.entriesForEmpty
 refine wpAny_bind (wpAny_dictEntries hoo hdo' ?_)
 refine wpAny_bind ?_
 rw [← Array.forIn_toList]
 refine wpAny_forIn_list _ (fun rest _ s'=>s'=s∧∀ x∈rest,x=en) _ ?_ ?_ _ _ ⟨rfl,fun x hx=>by simpa using hx⟩
 · rintro x rest u s' ⟨rfl,hr⟩
   obtain rfl:=hr x List.mem_cons_self
   rw [hk]
   unfold Builtin.Dict.quietEq
   refine wpAny_bind (wpAny_bind (wpAny_specialOf hT F.slot_tuple_eq.lookup (wpAny_pure ?_)))
   simp only [show (some (Value.builtin "tuple.__eq__") == some (Value.builtin "object.__eq__"))=false by symm,Bool.not_false,if_true]
   rw [if_neg (Qv _ _ (by show 1≤1;decide))]
   exact wpAny_pure ⟨rfl,fun y hy=>hr y (List.mem_cons_of_mem _ hy)⟩
 · rintro u s' ⟨rfl,_⟩
   refine wpAny_pure ?_
   rw [if_pos (by rfl)]
   exact wpAny_bind (wpAny_updateDictKeysTo hod hdd (wpAny_pure h) (by show 1≤sizeLine+1;omega))
theorem Kw {X:Cx}:cg X (.type "dict") (fun xs H Q=>∃ p k v,xs=[.ref p]∧H p=some (.dT [(k,v)])∧∀ d,H d=none→Q (.ref d) (upd H d (.dT [(k,v)]))):=by
 intro pins s σ H xs us Q I r h
 obtain⟨p,k,v,rfl,hp,q⟩:=h
 obtain⟨u,rfl,ru⟩:=r.one
 cases ru
 obtain⟨hz,hS,vs,rv,o,es,ep,ho,hc,hd,he,his,hn⟩:=V5 I.hok hp
 obtain⟨kk,b,vv,rfl,e1,hb,rvv⟩:∃ kk b vv,vs=[(kk,b,vv)]∧k=kk∧H b=some (.tup (k.map kV))∧RelV v vv:=by
   cases rv with
   | cons z t=>cases t;obtain⟨z1,z2,z3⟩:=z;exact⟨_,_,_,rfl,z1,z2,z3⟩
 subst e1
 have he:es=#[entryOfKey (tupleKind (dh X.prog X.w)) (k,b,vv)]:=by
   cases es with | mk l=>simp only at he;rw [he];rfl
 have hTb:(s.TypeIs (.ref b) "tuple"):=by
   obtain⟨_,its,r,o,h1,h2,n,h3⟩:=(show cI X.prog X.w H s.heap b (.tup (k.map kV)) from I.hok b _ hb)
   exact⟨o,h1,h2⟩
 subst he
 have hdo:s.heap.objs.size≠p:=fun e=>absurd (Heap.lt_size ho) (by rw [e];exact Nat.lt_irrefl _)
 refine callType_codes (Q₁:=fun obj s₁=>obj=.ref s.heap.objs.size∧s₁={ s with heap:=s.heap.push { cls:=.type "dict",data:=.dict #[] } }) F.kt_called_dict (F.kt_typeCall_dict_1 _) F.entry_dict_init (kt_code_dict_new _ ⟨rfl,rfl⟩) ?_
 rintro obj s₁ ⟨rfl,rfl⟩
 have hnew:(s.heap.push { cls:=.type "dict",data:=.dict #[] }).DictOf (dh X.prog X.w) s.heap.objs.size []:=Heap.DictOf.new s.heap
 have hTo:Shared.TypeIs { s with heap:=s.heap.push { cls:=.type "dict",data:=.dict #[] } } (.ref p) "dict":=⟨o,Heap.get?_push_of_some _ ho,hc.1⟩
 refine⟨hnew.typeIs,F.args_dict_init_2 _ _,?_⟩
 unfold Builtin.«dict.__init__»
 refine wpAny_bind ?_
 unfold Builtin.Dict.selfAndRest
 refine wpAny_bind (wpAny_notOrdered_dict hnew.typeIs ?_)
 show wpAny _ _ (pure (s.heap.objs.size,[Value.ref p])) _ _ _
 refine wpAny_pure ?_
 show wpAny _ _ (Builtin.Dict.updateFrom "dict.__init__" s.heap.objs.size (.ref p) [] .none) _ _ _
 unfold Builtin.Dict.updateFrom
 refine wpAny_bind (wpAny_typeOf hTo ?_)
 rw [if_neg (by decide)]
 refine wpAny_bind ?_
 unfold Builtin.Dict.merge
 refine wpAny_bind ?_
 unfold Builtin.Dict.readDirectly
 refine wpAny_bind (wpAny_isInstance hTo isSubtype_dict_dict ?_)
 simp only [Bool.not_true,Bool.false_eq_true,if_false]
 refine wpAny_bind (wpAny_specialOf hTo F.slot_dict_iter.lookup (wpAny_pure ?_))
 simp only [beq_self_eq_true,if_true]
 refine wpAny_bind (wpAny_pure ?_)
 have hp1:(s.heap.push { cls:=.type "dict",data:=.dict #[] }).get? s.heap.objs.size=some { cls:=.type "dict",data:=.dict #[] }:=Heap.get?_push_size _ rfl
 have atM:Shared.TypeIs { s with heap:=s.heap.push { cls:=.type "dict",data:=.dict #[] } } (.ref b) "tuple":=by
   obtain⟨ob,h1,h2⟩:=hTb
   exact⟨ob,Heap.get?_push_of_some _ h1,h2⟩
 refine Uu (X:=X) hdo hS hp1 rfl (Heap.get?_push_of_some _ ho) hd rfl atM ?_
 show wpAny _ _ (Builtin.Dict.addKeywords s.heap.objs.size [] >>= _) _ _ _
 refine wpAny_bind (wpAny_pure (wpAny_pure ⟨rfl,?_⟩))
 have hn:H s.heap.objs.size=none:=I.hok.fresh (Nat.le_refl _)
 have big:=I.big
 refine⟨.ref s.heap.objs.size,_,I.laid (t':=s.toks) (o:=.dT [(k,v)]) (fun b o e=>?_) (Nat.le_refl _) ⟨hz,beq_false_of_ne (Nat.ne_of_gt big),[(k,b,vv)],.cons ⟨rfl,?_,rvv⟩ .nil,_,#[entryOfKey (tupleKind (dh X.prog X.w)) (k,b,vv)],1,Heap.get?_update_self _ hp1 rfl,⟨rfl,rfl,rfl⟩,rfl,rfl,by simp⟩,rfl,q _ hn⟩
 · rw [Heap.get?_update_ne _ _ _ _ (Nat.ne_of_lt (Heap.lt_size e))];exact Heap.get?_push_of_some _ e
 · rw [zI (zJ hb hn)];exact hb
end L2
namespace L2
open PySem PySem.Spec PyProof.Rows PySem.Calls
open PySem.W (tabObj CodeHd kla_obj kla_fn)
def acw (X:Cx) (sp:Sp) (rE:List V) (D:jk) (Pt:Addr) (Ig:Pos) (is:List Nat) (t:TA):TE:=fun σ H Q=>t σ H fun vs H2=>∃ c' ws,H2 Pt=some (.iI (d8 D.qual Ig ++ #[.ref c']))∧Paired (fun i w=>σ[i]? = some (some w)) is ws ∧
 ∀ H3,Us H2 H3 Pt c' D.qual (uE X.env D.ys) ws→sp (vs++rE) H3 (fun v H4=>∀ H5,Rest H2 H4 H5 Pt c'→Q v H5) E0
theorem acx {X:Cx}{D:jk}{Pt:Addr}{is:List Nat}{k:Nat}{f:Addr}{fd:FuncData}{ps:List Str}{sp:Sp}{x:Str}{ds:List Value}{rE:List V}{e:Expr}{es:List Expr}{t:TA}{p pos Ig:Pos} (F:aG X.prog X.w X.K X.mg X.base bQ k f fd ps sp) (hr:fD k X.A) (hg:Gl X x) (hm:X.mg x=some (.ref f)) (hk:PySem.W.keepIn X.K (.ref f)=true) (hb:Binds X.K fd ps ds) (hd:Vals rE ds)
   (ha:PA X (e::es) t) (hfn:∀ y∈D.ys,X.fn y=true∧X.env.kindOf y=some .cell) (nd:D.ys.Nodup) (hN:Paired (fun (y:Str) i=>X.N[i]? = some y) D.ys is)
   (hdb:(x == ("__debug__":Str))=false:=by decide) (he:starEach (e::es) X.env=(false,eval e X.env)::starEach es X.env:=by rfl) (hpl:(backTo pos (starEach es X.env)).any (·.1)=false:=by rfl) :
   PE X (.Call (.Name x p) (e::es) [] pos) (acw X sp rE D Pt Ig is t):=by
 intro pins s σ H Q I h
 refine wpAny_Call_Name_kw (qu I hg hm ?_ hdb)
 refine PySem.W.callWith_K (h₀:=X.base) I.ok.mod.Zi hk (d9 (ha pos pins s σ H _ I h) fun us s2 zq=>?_) he hpl
 obtain⟨vs,H2,I2,r,c',ws,hT,hw,q2⟩:=zq
 refine⟨I2.Dd,?_⟩
 obtain⟨H3,L,e0,back⟩:=I2.abi hT hfn nd hN hw
 have h3:=q2 H3 L
 have r2:Vals (vs++rE) (us++ds):=Vals.append r hd
 have hl:(us++ds).length=ps.length:=by rw [← r2.length];exact F.len _ _ _ _ h3
 refine wpAny_call (codeAny_mono (F.run X.A X.stack s2 H3 ⟨us,[]⟩ _ _ _ _ hr e0 (hb s2 us I2.Dd hl) r2 h3) fun r s' hq=>?_)
 cases r with
 | error e=>exact False.elim hq
 | ok fl =>
   cases fl with
   | ret u=>exact I2.after (back Q u s' hq)
   | next=>exact False.elim hq
   | brk=>exact False.elim hq
   | cont=>exact False.elim hq
theorem Qw {X:Cx}{A:Around}{E:Value→Shared→Prop}{s:Shared}{nm:String}{d p:Addr}{o:Obj}{ep:Nat}{Q:Unit→Shared→Prop} (hdo:d≠p) (hoS:(p == sysModules)=false)
   (hoo:s.heap.get? p=some o) (hdo':o.data=.dict #[] ep) (h:Q () s):wpAny (model X.prog X.w) A (Builtin.Dict.mergeDict nm d p) Q E s:=by
 unfold Builtin.Dict.mergeDict
 rw [if_neg (by simpa using hdo)]
 unfold Builtin.Dict.showsAll
 rw [if_neg (by rw [hoS];exact Bool.false_ne_true)]
 refine wpAny_bind (wpAny_pure ?_)
 refine wpAny_bind (wpAny_dictEntries hoo hdo' ?_)
 dsimp only
 rw [if_neg (by simp)]
 refine wpAny_bind (wpAny_dictEpoch hoo hdo' ?_)
 refine wpAny_bind (wpAny_dictEntries hoo hdo' ?_)
 refine wpAny_bind ?_
 rw [Std.Legacy.Range.forIn_eq_forIn_range']
 simp only [Std.Legacy.Range.size,Nat.sub_zero,Nat.add_sub_cancel,Nat.div_one]
 exact wpAny_pure (wpAny_pure h)
theorem Kz {X:Cx}:cg X (.type "dict") (fun xs H Q=>∃ p,xs=[.ref p]∧H p=some (.dT [])∧∀ d,H d=none→Q (.ref d) (upd H d (.dT []))):=by
 intro pins s σ H xs us Q I r h
 obtain⟨p,rfl,hp,q⟩:=h
 obtain⟨u,rfl,ru⟩:=r.one
 cases ru
 obtain⟨hz,hS,vs,rv,o,es,ep,ho,hc,hd,he,his,hn⟩:=V5 I.hok hp
 cases rv
 have he:es=#[]:=by
   cases es with | mk l=>simp only at he;rw [he];rfl
 subst he
 have hdo:s.heap.objs.size≠p:=fun e=>absurd (Heap.lt_size ho) (by rw [e];exact Nat.lt_irrefl _)
 refine callType_codes (Q₁:=fun obj s₁=>obj=.ref s.heap.objs.size∧s₁={ s with heap:=s.heap.push { cls:=.type "dict",data:=.dict #[] } }) F.kt_called_dict (F.kt_typeCall_dict_1 _) F.entry_dict_init (kt_code_dict_new _ ⟨rfl,rfl⟩) ?_
 rintro obj s₁ ⟨rfl,rfl⟩
 have hnew:(s.heap.push { cls:=.type "dict",data:=.dict #[] }).DictOf (dh X.prog X.w) s.heap.objs.size []:=Heap.DictOf.new s.heap
 have hTo:Shared.TypeIs { s with heap:=s.heap.push { cls:=.type "dict",data:=.dict #[] } } (.ref p) "dict":=⟨o,Heap.get?_push_of_some _ ho,hc.1⟩
 refine⟨hnew.typeIs,F.args_dict_init_2 _ _,?_⟩
 unfold Builtin.«dict.__init__»
 refine wpAny_bind ?_
 unfold Builtin.Dict.selfAndRest
 refine wpAny_bind (wpAny_notOrdered_dict hnew.typeIs ?_)
 show wpAny _ _ (pure (s.heap.objs.size,[Value.ref p])) _ _ _
 refine wpAny_pure ?_
 show wpAny _ _ (Builtin.Dict.updateFrom "dict.__init__" s.heap.objs.size (.ref p) [] .none) _ _ _
 unfold Builtin.Dict.updateFrom
 refine wpAny_bind (wpAny_typeOf hTo ?_)
 rw [if_neg (by decide)]
 refine wpAny_bind ?_
 unfold Builtin.Dict.merge
 refine wpAny_bind ?_
 unfold Builtin.Dict.readDirectly
 refine wpAny_bind (wpAny_isInstance hTo isSubtype_dict_dict ?_)
 simp only [Bool.not_true,Bool.false_eq_true,if_false]
 refine wpAny_bind (wpAny_specialOf hTo F.slot_dict_iter.lookup (wpAny_pure ?_))
 simp only [beq_self_eq_true,if_true]
 refine wpAny_bind (wpAny_pure ?_)
 refine Qw (X:=X) hdo hS (Heap.get?_push_of_some _ ho) hd ?_
 show wpAny _ _ (Builtin.Dict.addKeywords s.heap.objs.size [] >>= _) _ _ _
 refine wpAny_bind (wpAny_pure (wpAny_pure ⟨rfl,?_⟩))
 have hn:H s.heap.objs.size=none:=I.hok.fresh (Nat.le_refl _)
 exact⟨.ref s.heap.objs.size,_,I.laid (t':=s.toks) (o:=.dT []) (fun b o e=>Heap.get?_push_of_some _ e) (Nat.le_refl _) (M6 s.heap I.big),rfl,q _ hn⟩
theorem Cp {X:Cx}:cg X (.type "dict") (fun xs H Q=>∃ p kvs,xs=[.ref p]∧H p=some (.dT kvs)∧kvs.length≤1∧∀ d,H d=none→Q (.ref d) (upd H d (.dT kvs))):=by
 intro pins s σ H xs us Q I r h
 obtain⟨p,kvs,rfl,hp,hl,q⟩:=h
 match kvs,hl with
 | [],_=>exact Kz pins s σ H _ _ Q I r ⟨p,rfl,hp,q⟩
 | [(k,v)],_=>exact Kw pins s σ H _ _ Q I r ⟨p,k,v,rfl,hp,q⟩
def Qx (Pt Pu:Addr) (ps pu:Array Value) (H:Hp):Prop:=H Pt=some (.iI ps)∧H Pu=some (.iI pu)∧∀ b,b≠Pt→b≠Pu→H b=none∨∃ o xs,H b=some (.ud o (.lst xs))
theorem Qy {P:Program}{w:World}{K:PySem.W.Frag}{mg mb:Str→Option Value}{CX:HX}{k:Nat}{fa a:Addr}{fd:FuncData}{x:Str}{sp:Sp}{s₁:Shared}{vs:List Value}{ns:List Int}{c Pt c2 Pu:Addr}{ps pu:Array Value}
   (hps:∃ q ln cl,ps=#[.str q 0,ln,cl]) (hpu:∃ q ln cl,pu=#[.str q 0,ln,cl]) (nPu:Pu≠Pt) (KX:K.In s₁.heap) (hns:s₁.heap.Ns mainGlobals mg) (hb:s₁.heap.Ns builtinsNs mb) (hbb:∀ x:Str,x≠"__name__"→mb x=bootBuiltins x) (hlim:s₁.heap.NoLimit) (hg:s₁.gens=#[]) (hB:BMain mg s₁.heap)
   (hC:CodeHd s₁.heap c Pt) (hP:s₁.heap.get? Pt=some (tabObj #[])) (hKP:K.lookup Pt=none) (hC2:CodeHd s₁.heap c2 Pu) (hPu:s₁.heap.get? Pu=some (tabObj #[])) (atP:K.lookup Pu=none)
   (ha:s₁.heap.get? a=some { cls:=.type "list",data:=.seq vs.toArray }) (hi:IntsAre vs ns) (hl:ns.length≤sizeLine) (hr:fD k callerA)
   (F:∀ base:Heap,K.In base→base.Ns mainGlobals mg→BMain mg base→aG P w K mg base CX k fa fd [x] sp) (hbind:∀ (s:Shared) (u:Value),BindsTo s fd ⟨[u],[]⟩ [(x,u)])
   (hsp:∀ H:Hp,Qx Pt Pu ps pu H→bR K H a (ns.map V.int)→sp [.ref a] H (fun v _=>v=.bl true) fun _ _ _=>False)
   (hCX:∀ H e s',CX [] H s₁ (fun _ _ _=>False) e s'→False) :
   codeAny (model P w) callerA (.call (.ref fa) ⟨[.ref a],[]⟩) (fun r s'=>r=.ok (.ret (.bool true))∧OldK s₁.heap s'.heap∧s'.os=s₁.os∧AllBare s'.gens) s₁:=by
 have rv:=JD hi
 have lenV:=hi.length
 have naP:a≠Pt:=by rintro rfl;rw [ha] at hP;cases hP
 have naU:a≠Pu:=by rintro rfl;rw [ha] at hPu;cases hPu
 have core:∀ H:Hp,Qx Pt Pu ps pu H→bR K H a (ns.map V.int)→rU P w H s₁.heap→(∀ b,H b≠none→b=a∨b=Pt∨b=Pu)→(H a≠none→K.lookup a=none) →
     codeAny (model P w) callerA (.call (.ref fa) ⟨[.ref a],[]⟩) (fun r s'=>r=.ok (.ret (.bool true))∧OldK s₁.heap s'.heap∧s'.os=s₁.os∧AllBare s'.gens) s₁:=by
   intro H hO hS hok hA hK
   have KC:∀ {b:Addr}{o:Obj},s₁.heap.get? b=some o→H b=none→(Ia s₁.heap H).get? b=some o:=fun e n=>Vq e n
   have noB:∀ {b:Addr}{o:Obj},s₁.heap.get? b=some o→(∀ its n,o.data≠.seq its n)→(∀ vs,o.data≠.fields vs)→H b=none:=fun {b o} e d1 d2=>by
     cases q:H b with
     | none=>rfl
     | some u =>
       rcases hA b (by rw [q];simp) with e' | e' | e'
       · subst e';rw [ha] at e;cases e;exact absurd rfl (d1 _ _)
       · subst e';rw [hP] at e;cases e;exact absurd rfl (d2 _)
       · subst e';rw [hPu] at e;cases e;exact absurd rfl (d2 _)
   have Zv:∀ {b:Addr}{o:Obj}{es:Array DictEntry}{ep:Nat},s₁.heap.get? b=some o→o.data=.dict es ep→H b=none:=fun {b o es ep} e d =>
     noB e (fun _ _ z=>by rw [d] at z;cases z) fun _ z=>by rw [d] at z;cases z
   have nsK:∀ {b:Addr}{m:Str→Option Value},s₁.heap.Ns b m→(Ia s₁.heap H).Ns b m:=fun {b m} ⟨o,es,ep,e,d,r⟩=>⟨o,es,ep,KC e (Zv e d),d,r⟩
   have hKb:K.In (Ia s₁.heap H):=fun b o e=>KC (KX b o e) (by
     cases q:H b with
     | none=>rfl
     | some u =>
       rcases hA b (by rw [q];simp) with e' | e' | e'
       · subst e'
         rw [hK (by rw [q];simp)] at e;cases e
       · subst e'
         rw [hKP] at e;cases e
       · subst e'
         rw [atP] at e;cases e)
   have hBb:BMain mg (Ia s₁.heap H):=by
     obtain⟨bm,ob,a1,a2,a3,a4,a5,a6⟩:=hB
     exact⟨bm,ob,a1,a2,KC a3 (noB a3 (fun _ _ z=>by rw [a6] at z;cases z) fun _ z=>by rw [a6] at z;cases z),a4,a5,a6⟩
   have hM:Mod K mg (Ia s₁.heap H):=⟨hKb,nsK hns,⟨mb,nsK hb,hbb⟩,let ⟨mc,h1,h2⟩:=hlim; ⟨mc,nsK h1,h2⟩⟩
   have e0:wQ P w K mg (Ia s₁.heap H) callerA [] s₁ H:=⟨rfl,hM,fun b o e=>Zg e,Nat.le_of_eq (T5 _ _),trivial,fun b hb=>absurd (show b∈([]:List Addr) from hb) (by simp),hok,.of_eq hg⟩
   refine codeAny_mono ((F _ hKb (nsK hns) hBb).run callerA [] s₁ H ⟨[.ref a],[]⟩ [.ref a] [.ref a] _ _ hr e0 (hbind s₁ (.ref a)) (.cons rfl .nil) (hsp H hO hS)) fun r s' h=>?_
   cases r with
   | error e=>exact (hCX H e s' h).elim
   | ok fl =>
     cases fl with
     | next=>exact False.elim h
     | brk=>exact False.elim h
     | cont=>exact False.elim h
     | ret u =>
       obtain⟨v,H',os,bare,un,hok',r',q⟩:=h
       have q':v=.bl true:=q
       subst q'
       obtain rfl:u=Value.bool true:=r'
       obtain⟨more,hmore⟩:=un.pF Pt _ hO.1
       obtain⟨ts',hP',_⟩:=hok' Pt _ hmore
       obtain⟨aB6,acy⟩:=un.pF Pu _ hO.2.1
       obtain⟨tu',agl,_⟩:=hok' Pu _ acy
       have keep:∀ b o,b≠Pt→b≠Pu→s₁.heap.get? b=some o→s'.heap.get? b=some o:=fun b o hb hb2 e=>by
         cases q:H b with
         | none=>exact un.keep b o e q (by intro z;exact absurd (show b∈([]:List Addr) from z) (by simp)) (by simp)
         | some u =>
           rcases hO.2.2 b hb hb2 with z | ⟨ob,xs,z⟩
           · rw [q] at z;cases z
           · have z2:=un.pD b ob _ z
             obtain⟨e1,_⟩:=hok b _ z
             obtain⟨e2,_⟩:=hok' b _ z2
             rw [e] at e1;cases e1
             exact e2
       refine⟨rfl,⟨fun b o e=>?_,fun b o e=>?_⟩,os,bare⟩
       · by_cases hb:b=Pt
         · subst hb
           rw [hP] at e;cases e
           exact .inr (.inl ⟨(hC.tab hP).isCodeTable,rfl,#[],ts',rfl,by rw [Array.empty_append];exact hP'⟩)
         · by_cases hb2:b=Pu
           · subst hb2
             rw [hPu] at e;cases e
             exact .inr (.inl ⟨(hC2.tab hPu).isCodeTable,rfl,#[],tu',rfl,by rw [Array.empty_append];exact agl⟩)
           · exact .inl (keep b o hb hb2 e)
       · by_cases hb:b=Pt
         · subst hb;exact⟨_,hP'⟩
         · by_cases hb2:b=Pu
           · subst hb2;exact⟨_,agl⟩
           · exact⟨o,keep b o hb hb2 e⟩
 have tabs:∀ {H:Hp},H Pt=some (.iI ps)→H Pu=some (.iI pu)→(∀ b u,b≠Pt→b≠Pu→H b=some u→cI P w H s₁.heap b u)→rU P w H s₁.heap:=fun {H} e1 e2 h b u z=>by
   by_cases hb:b=Pt
   · subst hb;rw [e1] at z;cases z;exact⟨#[],hP,.inl ⟨rfl,hps⟩⟩
   · by_cases hb2:b=Pu
     · subst hb2;rw [e2] at z;cases z;exact⟨#[],hPu,.inl ⟨rfl,hpu⟩⟩
     · exact h b u hb hb2 z
 cases hk:K.lookup a with
 | some o =>
   have e:=KX a o hk
   rw [ha] at e
   cases e
   obtain⟨H,hH⟩:∃ H:Hp,H=upd (upd (fun _=>none) Pt (.iI ps)) Pu (.iI pu):=⟨_,rfl⟩
   have e1:H Pt=some (.iI ps):=by rw [hH,zI (Ne.symm nPu)];exact zB
   have e2:H Pu=some (.iI pu):=by rw [hH];exact zB
   have e3:∀ b,b≠Pt→b≠Pu→H b=none:=fun b h1 h2=>by rw [hH,zI h2,zI h1]
   refine core H ⟨e1,e2,fun b h1 h2=>.inl (e3 b h1 h2)⟩ (.inr ⟨_,vs.toArray,_,hk,rfl,rfl,rfl,by rw [List.size_toArray,lenV];exact hl,by simpa using rv⟩) (tabs e1 e2 fun b u h1 h2 z=>by rw [e3 b h1 h2] at z;cases z) (fun b z=>?_) fun z=>absurd (e3 a naP naU) z
   by_cases h1:b=Pt
   · exact .inr (.inl h1)
   by_cases h2:b=Pu
   · exact .inr (.inr h2)
   exact absurd (e3 b h1 h2) z
 | none =>
   obtain⟨H,hH⟩:∃ H:Hp,H=upd (upd (upd (fun _=>none) a (.ud { cls:=.type "list",data:=.seq vs.toArray } (.lst (ns.map V.int)))) Pt (.iI ps)) Pu (.iI pu):=⟨_,rfl⟩
   have e1:H Pt=some (.iI ps):=by rw [hH,zI (Ne.symm nPu)];exact zB
   have e2:H Pu=some (.iI pu):=by rw [hH];exact zB
   have e4:H a=some (.ud { cls:=.type "list",data:=.seq vs.toArray } (.lst (ns.map V.int))):=by rw [hH,zI naU,zI naP];exact zB
   have e3:∀ b,b≠Pt→b≠Pu→b≠a→H b=none:=fun b h1 h2 h3=>by rw [hH,zI h2,zI h1,zI h3]
   refine core H ⟨e1,e2,fun b h1 h2=>?_⟩ (.inl (.inr ⟨{ cls:=.type "list",data:=.seq vs.toArray },e4⟩)) (tabs e1 e2 fun b u h1 h2 z=>?_) (fun b z=>?_) fun _=>hk
   · by_cases hb:b=a
     · exact .inr ⟨_,_,by rw [hb];exact e4⟩
     · exact .inl (e3 b h1 h2 hb)
   · by_cases hb:b=a
     · subst hb;rw [e4] at z;cases z
       exact⟨ha,by rw [List.length_map];exact hl,vs,_,rv,ha⟩
     · rw [e3 b h1 h2 hb] at z;cases z
   · by_cases h1:b=Pt
     · exact .inr (.inl h1)
     by_cases h2:b=Pu
     · exact .inr (.inr h2)
     by_cases hb:b=a
     · exact .inl hb
     exact absurd (e3 b h1 h2 hb) z
theorem Uv {l:PySem.W.OpenLaw}{n k:Nat}{q:Program}{loose:List Str}{XP:(Str→Option Value)→Heap→Prop}{YP:World→Heap→Prop}{d:DefRec}{K:Params→PySem.W.Frag}{CX:World→HX}{sp:Addr→Addr→World→Sp}{x:Str}{ps pu:Array Value}
   (hps:∃ q ln cl,ps=#[.str q 0,ln,cl]) (hpu:∃ q ln cl,pu=#[.str q 0,ln,cl])
   (hn:l.most=some n) (hn2:n≤sizeLine) (hdf:d.params.defaults=[]) (hr:fD k callerA)
   (hY:∀ (w:World) (h:Heap),YP w h→(K w.params).In h)
   (F:∀ (w:World) (mg:Str→Option Value) (fa:Addr) (h:Heap),YP w h→(K w.params).In h→h.Ns mainGlobals mg→mg d.name=some (.ref fa) →
     ∃ (c Pt c2 Pu:Addr) (fd:FuncData),Pu≠Pt∧PySem.W.codeHdIn (K w.params) c Pt=true∧h.get? Pt=some (tabObj #[])∧(K w.params).lookup Pt=none∧PySem.W.codeHdIn (K w.params) c2 Pu=true∧h.get? Pu=some (tabObj #[])∧(K w.params).lookup Pu=none∧(∀ (s:Shared) (u:Value),BindsTo s fd ⟨[u],[]⟩ [(x,u)]) ∧
       (∀ base:Heap,(K w.params).In base→base.Ns mainGlobals mg→BMain mg base→aG l.prog w (K w.params) mg base (CX w) k fa fd [x] (sp Pt Pu w)))
   (hsp:∀ (Pt Pu:Addr) (w:World) (H:Hp) (a:Addr) (ns:List Int),ns.length≤n→(∀ n∈ns,Builtin.Int.intBits n≤1048576)→Qx Pt Pu ps pu H→bR (K w.params) H a (ns.map V.int)→sp Pt Pu w [.ref a] H (fun v _=>v=.bl true) fun _ _ _=>False)
   (hCX:∀ (w:World) (H:Hp) (s:Shared) (e:Value) (s':Shared),CX w [] H s (fun _ _ _=>False) e s'→False) :
   PySem.W.WalkO q loose XP YP l.row.toRowW d [] (fun f vs=>PySem.call f vs):=by
 refine Att.Ku hn hdf fun w s₀ s₁ mg mb fa o pm cd doc a vs ns G Y ho hd hcd hmg hobj hints hlen agm hg=>?_
 have KX:=hY w _ Y
 obtain⟨c,Pt,c2,Pu,fd,nn,h1,h2,h3,h4,h5,h6,hb,hF⟩:=F w mg fa _ Y KX G.T.g hmg
 exact Qy hps hpu nn KX G.T.g G.T.b G.T.builtins G.T.nolimit hg G.T.bmain (PySem.W.codeHd_of_K KX h1) h2 h3 (PySem.W.codeHd_of_K KX h4) h5 h6 hobj hints (Nat.le_trans hlen hn2) hr hF hb (fun H hO hS=>hsp Pt Pu w H a ns hlen agm hO hS) fun H e s'=>hCX w H s₁ e s'
end L2
namespace iy
open PySem L2
def top (i:Nat):Stmt:=PySem.Challenge.pw_askpaper_k61_one_atom_come_to.main.body.getD i (.Pass ⟨0,0,0,0⟩)
abbrev bW:Stmt:=inClass (top 23) 0
abbrev bC:Stmt:=inClass (top 24) 0
abbrev cu:Stmt:=inClass (top 24) 1
abbrev aQ:Stmt:=inClass (top 24) 2
abbrev cz:Stmt:=inClass (top 24) 4
abbrev bD:Stmt:=inClass (top 24) 5
abbrev bG:Stmt:=inClass (top 25) 4
abbrev bY:Stmt:=inClass (top 27) 0
abbrev cN:Stmt:=inClass (top 27) 1
abbrev aX:Stmt:=inClass (top 27) 2
abbrev cO:Stmt:=inClass (top 27) 4
abbrev bZ:Stmt:=inClass (top 27) 5
abbrev bH:Stmt:=inClass (top 28) 0
abbrev bI:Stmt:=inClass (top 28) 5
abbrev cA:Stmt:=inClass (top 30) 0
abbrev bV:Stmt:=inClass (top 31) 0
abbrev bJ:Stmt:=inClass (top 32) 0
abbrev bK:Stmt:=inClass (top 33) 0
abbrev eG:Stmt:=top 35
abbrev dN:Stmt:=top 36
abbrev cB:Stmt:=top 40
abbrev bL:Stmt:=inClass (top 41) 0
abbrev cD:Stmt:=inClass (top 41) 4
abbrev aR:Stmt:=inClass (top 41) 5
abbrev aY:Stmt:=inClass (top 41) 6
abbrev aU:Stmt:=inClass (top 41) 8
abbrev aN:Stmt:=inClass (top 41) 10
abbrev aO:Stmt:=inClass (top 41) 11
abbrev b7:Stmt:=inClass (top 41) 12
abbrev du:Stmt:=inClass (top 41) 13
abbrev eN:Stmt:=top 43
abbrev bu:Stmt:=top 44
abbrev aK:Stmt:=inClass (top 45) 5
abbrev cF:Stmt:=inClass (top 46) 0
abbrev dw:Stmt:=inClass (top 46) 2
abbrev cG:Stmt:=inClass (top 46) 3
abbrev dO:Stmt:=inClass (top 46) 5
abbrev aZ:Stmt:=inClass (top 47) 0
abbrev bw:Stmt:=inClass (top 47) 2
abbrev aV:Stmt:=inClass (top 47) 3
abbrev bM:Stmt:=inClass (top 47) 5
abbrev cH:Stmt:=inClass (top 48) 0
abbrev cQ:Stmt:=inClass (top 48) 2
abbrev b8:Stmt:=inClass (top 48) 3
abbrev dB:Stmt:=inClass (top 48) 5
abbrev eO:Stmt:=top 50
abbrev fU:Stmt:=top 51
abbrev iz:Stmt:=top 52
abbrev bN:Stmt:=inClass (top 53) 0
abbrev bc:Stmt:=inClass (top 53) 1
abbrev aW:Stmt:=inClass (top 53) 2
abbrev cR:Stmt:=inClass (top 53) 3
abbrev bz:Stmt:=inClass (top 53) 4
abbrev aM:Stmt:=inClass (top 53) 5
abbrev bf:Stmt:=inClass (top 53) 6
abbrev eQ:Stmt:=top 54
abbrev dR:Stmt:=top 56
abbrev eU:Stmt:=top 57
abbrev eV:Stmt:=top 58
abbrev kI:Stmt:=top 59
abbrev iB:Stmt:=top 61
abbrev fV:Stmt:=top 62
abbrev bO:Stmt:=top 63
abbrev cW:Stmt:=top 64
abbrev eY:Stmt:=top 66
abbrev eZ:Stmt:=top 67
abbrev fc:Stmt:=top 68
abbrev dC:Stmt:=top 69
abbrev dU:Stmt:=top 70
abbrev fW:Stmt:=top 71
abbrev dW:Stmt:=top 72
abbrev fj:Stmt:=top 73
abbrev dD:Stmt:=top 74
abbrev fu:Stmt:=top 75
abbrev dX:Stmt:=top 76
abbrev dF:Stmt:=top 77
abbrev fX:Stmt:=top 78
abbrev xj:Stmt:=top 79
set_option genInjectivity false
set_option genSizeOf false
structure cM where
 fO:Addr
 lN:FuncData
 jG:Addr
 jH:FuncData
 m9:Addr
 nq:FuncData
 gU:Addr
 gW:FuncData
 nu:Addr
 nA:FuncData
 jJ:Addr
 jK:FuncData
 gJ:Addr
 jL:FuncData
 lO:Addr
 lQ:FuncData
 pI:Addr
 pJ:FuncData
 iR:Addr
 iT:FuncData
 pK:Addr
 pL:FuncData
 lR:Addr
 lU:FuncData
 jM:Addr
 jN:FuncData
 xm:List Value
 jO:Addr
 jP:FuncData
 nC:Addr
 nG:FuncData
 nH:Addr
 jl:FuncData
 lV:List Value
 jQ:Addr
 jR:FuncData
 jT:Addr
 jU:FuncData
 qC:Addr
 vD:FuncData
 oU:Addr
 sy:FuncData
 jm:Addr
 nJ:FuncData
 jV:Addr
 jW:FuncData
 nM:Addr
 nO:FuncData
 gY:Addr
 gZ:FuncData
 iU:Addr
 iV:FuncData
 ie:Addr
 ig:FuncData
 gw:Addr
 gA:FuncData
 gB:Addr
 gC:FuncData
 lW:Addr
 lX:FuncData
 qD:Addr
 qF:FuncData
 qG:Addr
 vG:FuncData
 gf:Addr
 jn:FuncData
 dj:Addr
 fZ:FuncData
 pM:Addr
 kJ:FuncData
 nQ:List Value
 qH:Addr
 qI:FuncData
 nT:Addr
 nU:FuncData
 sE:Addr
 sI:FuncData
 iW:Addr
 iY:FuncData
 jo:Addr
 jq:FuncData
 ik:Addr
 il:FuncData
 jX:Addr
 jY:FuncData
 nW:Addr
 nY:FuncData
 pN:Addr
 pO:FuncData
 lY:Addr
 lZ:FuncData
 qJ:Addr
 qK:FuncData
 qL:Addr
 vH:FuncData
 uq:Addr
 Ah:FuncData
 xn:Addr
 FW:FuncData
 jZ:Addr
 j4:FuncData
 iZ:Addr
 jb:FuncData
 ir:Addr
 iu:FuncData
 pP:Addr
 pQ:FuncData
 jr:Addr
 jt:FuncData
 mj:Addr
 aP:FuncData
 jc:Addr
 jd:FuncData
 qM:Addr
 vI:FuncData
 oV:Addr
 sJ:FuncData
 qN:Addr
 vJ:FuncData
 qO:Addr
 vK:FuncData
 Er:Addr
 KD:FuncData
 WM:List Value
 xq:Addr
 FZ:FuncData
 ur:Addr
 Ai:FuncData
 gK:Addr
 j5:FuncData
 uv:Addr
 gM:FuncData
 vL:List Value
 qP:Addr
 vM:FuncData
 qQ:Addr
 vN:FuncData
 qR:Addr
 vO:FuncData
 mL:Addr
 qT:FuncData
 oW:Addr
 sO:FuncData
 uw:Addr
 Aj:FuncData
 oY:Addr
 sS:FuncData
 qU:Addr
 vP:FuncData
 mO:Addr
 qW:FuncData
 qX:Addr
 vQ:FuncData
 oZ:Addr
 sU:FuncData
 mQ:Addr
 qY:FuncData
 ux:Addr
 Ak:FuncData
 WN:Addr
 WQ:FuncData
 gD:Addr
 qb:Addr
 qd:Addr
 az:Addr
 cJ:Addr
 Tt:Addr
 qe:Addr
 WR:Addr
 iJ:Addr
 di:Addr
 rG:Addr
 iK:Addr
 cT:Addr
 abj:Addr
 agn:Addr
 kO:Addr
 dJ:Addr
 bB:Addr
structure Txt (K:W.Frag) (mg:Str→Option Value) (A:cM):Prop where
 Dk:fJ K "__init__" "Kind.__init__" bW A.fO A.lN
 fP:Binds K A.lN ["self","low","high"] []
 Al:fJ K "__init__" "YesNo.__init__" bC A.jG A.jH
 qg:Binds K A.jH ["self"] []
 Gb:fJ K "fits" "YesNo.fits" cu A.m9 A.nq
 Gd:Binds K A.nq ["self","thing"] []
 uF:fJ K "answer_of" "YesNo.answer_of" aQ A.gU A.gW
 uG:Binds K A.gW ["self","text"] []
 Ge:fJ K "rank" "YesNo.rank" cz A.nu A.nA
 Gf:Binds K A.nA ["self","answer"] []
 Am:fJ K "sample" "YesNo.sample" bD A.jJ A.jK
 An:Binds K A.jK ["self","rank"] []
 Ao:fJ K "sample" "Whole.sample" bG A.gJ A.jL
 qi:Binds K A.jL ["self","rank"] []
 Dl:fJ K "__init__" "Pick.__init__" bY A.lO A.lQ
 Dm:Binds K A.lQ ["self","words"] []
 Ii:fJ K "fits" "Pick.fits" cN A.pI A.pJ
 Ij:Binds K A.pJ ["self","thing"] []
 vR:fJ K "answer_of" "Pick.answer_of" aX A.iR A.iT
 vU:Binds K A.iT ["self","text"] []
 Ik:fJ K "rank" "Pick.rank" cO A.pK A.pL
 Il:Binds K A.pL ["self","answer"] []
 Dp:fJ K "sample" "Pick.sample" bZ A.lR A.lU
 Dq:Binds K A.lU ["self","rank"] []
 Aq:Dj K "__init__" "Names.__init__" bH A.xm A.jM A.jN
 Ar:Binds K A.jN ["self","most"] []
 Av:fJ K "sample" "Names.sample" bI A.jO A.jP
 Aw:Binds K A.jP ["self","rank"] []
 Gg:fJ K "__init__" "Row.__init__" cA A.nC A.nG
 Gh:Binds K A.nG ["self","name"] []
 Gi:Dj K "__init__" "Ask.__init__" bV A.lV A.nH A.jl
 Gj:Binds K A.jl ["self","name","kind","when"] []
 Dr:Binds K A.jl ["self","name","kind","when"] A.lV
 Ds:Vals [.non] A.lV
 Ax:fJ K "__init__" "Sheet.__init__" bJ A.jQ A.jR
 Ay:Binds K A.jR ["self","name","each","rows","ways"] []
 Az:fJ K "__init__" "Paper.__init__" bK A.jT A.jU
 Ba:Binds K A.jU ["self","name","sheets","totals"] []
 Qz:fJ K "kinds_of" "kinds_of" eG A.qC A.vD
 vV:Binds K A.vD ["paper"] []
 vW:W.keepIn K (.ref A.qC)=true
 vX:mg "kinds_of" = some (.ref A.qC)
 NT:fJ K "eaches_of" "eaches_of" dN A.oU A.sy
 Cq:Binds K A.sy ["paper"] []
 Cr:W.keepIn K (.ref A.oU)=true
 Cu:mg "eaches_of" = some (.ref A.oU)
 Gk:fJ K "all_together" "all_together" cB A.jm A.nJ
 Gm:Binds K A.nJ ["paper"] []
 Gn:W.keepIn K (.ref A.jm)=true
 Gp:mg "all_together" = some (.ref A.jm)
 Bb:fJ K "__init__" "Going.__init__" bL A.jV A.jW
 Bc:Binds K A.jW ["self","paper","alone"] []
 Gq:fJ K "note" "Going.note" cD A.nM A.nO
 Gr:Binds K A.nO ["self","question","thing","known"] []
 uH:fJ K "own_thing" "Going.own_thing" aR A.gY A.gZ
 uI:Binds K A.gZ ["self","question","thing"] []
 vY:fJ K "known_of" "Going.known_of" aY A.iU A.iV
 vZ:Binds K A.iV ["self","question","thing"] []
 uJ:fJ K "stop_with" "Going.stop_with" aU A.ie A.ig
 uK:Binds K A.ig ["self","row"] []
 sV:fJ K "go_through" "Going.go_through" aN A.gw A.gA
 sW:Binds K A.gA ["self","sheet","thing"] []
 sX:fJ K "targets_of" "Going.targets_of" aO A.gB A.gC
 sY:Binds K A.gC ["self","sheet"] []
 Dt:fJ K "leave" "Going.leave" b7 A.lW A.lX
 Du:Binds K A.lX ["self","place"] []
 KH:fJ K "go" "Going.go" du A.qD A.qF
 KJ:Binds K A.qF ["self"] []
 QB:fJ K "compares" "compares" eN A.qG A.vG
 QC:Binds K A.vG ["rank","how","number"] []
 QD:W.keepIn K (.ref A.qG)=true
 QF:mg "compares" = some (.ref A.qG)
 xr:fJ K "surely_compares" "surely_compares" bu A.gf A.jn
 o4:Binds K A.jn ["span","how","number"] []
 o5:W.keepIn K (.ref A.gf)=true
 o6:mg "surely_compares" = some (.ref A.gf)
 rP:fJ K "first_open" "Saying.first_open" aK A.dj A.fZ
 gb:Binds K A.fZ ["self","look"] []
 Im:Dj K "__init__" "Is.__init__" cF A.nQ A.pM A.kJ
 Io:Binds K A.kJ ["self","name","word","place"] []
 sZ:Binds K A.kJ ["self","name","word","place"] A.nQ
 tu:Vals [.non] A.nQ
 KQ:fJ K "atoms" "Is.atoms" dw A.qH A.qI
 KR:Binds K A.qI ["self"] []
 Gu:fJ K "settled" "Is.settled" cG A.nT A.nU
 Gv:Binds K A.nU ["self","kinds"] []
 NZ:fJ K "sure" "Is.sure" dO A.sE A.sI
 N5:Binds K A.sI ["self","look"] []
 v5:fJ K "__init__" "Compare.__init__" aZ A.iW A.iY
 nZ:Binds K A.iY ["self","name","how","number"] []
 xu:fJ K "atoms" "Compare.atoms" bw A.jo A.jq
 xx:Binds K A.jq ["self"] []
 uL:fJ K "settled" "Compare.settled" aV A.ik A.il
 uM:Binds K A.il ["self","kinds"] []
 Bd:fJ K "sure" "Compare.sure" bM A.jX A.jY
 Be:Binds K A.jY ["self","look"] []
 Gw:fJ K "__init__" "Not.__init__" cH A.nW A.nY
 tD:Binds K A.nY ["self","test"] []
 Ip:fJ K "atoms" "Not.atoms" cQ A.pN A.pO
 Ir:Binds K A.pO ["self"] []
 Dv:fJ K "settled" "Not.settled" b8 A.lY A.lZ
 Dw:Binds K A.lZ ["self","kinds"] []
 KY:fJ K "sure" "Not.sure" dB A.qJ A.qK
 KZ:Binds K A.qK ["self","look"] []
 QG:fJ K "range_in" "range_in" eO A.qL A.vH
 v9:Binds K A.vH ["box","kinds","question","k"] []
 wg:W.keepIn K (.ref A.qL)=true
 wj:mg "range_in" = some (.ref A.qL)
 Uw:fJ K "cut_out" "cut_out" fU A.uq A.Ah
 JQ:Binds K A.Ah ["number","low"] []
 JR:W.keepIn K (.ref A.uq)=true
 JS:mg "cut_out" = some (.ref A.uq)
 WT:fJ K "cut_of" "cut_of" iz A.xn A.FW
 WW:Binds K A.FW ["atom","low"] []
 WX:W.keepIn K (.ref A.xn)=true
 WY:mg "cut_of" = some (.ref A.xn)
 Bf:fJ K "__init__" "ByBox.__init__" bN A.jZ A.j4
 Bg:Binds K A.j4 ["self","paper","box"] []
 wk:fJ K "split_at" "ByBox.split_at" bc A.iZ A.jb
 wu:Binds K A.jb ["self","question","thing","cut"] []
 uN:fJ K "things_of" "ByBox.things_of" aW A.ir A.iu
 uO:Binds K A.iu ["self","sheet"] []
 Iu:fJ K "put" "ByBox.put" cR A.pP A.pQ
 Iv:Binds K A.pQ ["self","question","thing"] []
 xW:fJ K "span_of" "ByBox.span_of" bz A.jr A.jt
 xX:Binds K A.jt ["self","name","thing"] []
 Dy:fJ K "is_so" "ByBox.is_so" aM A.mj A.aP
 Dz:Binds K A.aP ["self","saying","thing"] []
 wy:fJ K "split_by" "ByBox.split_by" bf A.jc A.jd
 wz:Binds K A.jd ["self","atom","thing"] []
 QH:fJ K "going_by" "going_by" eQ A.qM A.vI
 QJ:Binds K A.vI ["paper","box"] []
 QK:W.keepIn K (.ref A.qM)=true
 QL:mg "going_by" = some (.ref A.qM)
 N6:fJ K "ranges_of" "ranges_of" dR A.oV A.sJ
 N7:Binds K A.sJ ["log","box","kinds"] []
 N8:W.keepIn K (.ref A.oV)=true
 Oa:mg "ranges_of" = some (.ref A.oV)
 QM:fJ K "narrowed" "narrowed" eU A.qN A.vJ
 Gx:Binds K A.vJ ["box","question","k","span"] []
 Gy:W.keepIn K (.ref A.qN)=true
 Gz:mg "narrowed" = some (.ref A.qN)
 QQ:fJ K "parts_of" "parts_of" eV A.qO A.vK
 QR:Binds K A.vK ["box","kinds","question","k","cut"] []
 QS:W.keepIn K (.ref A.qO)=true
 QT:mg "parts_of" = some (.ref A.qO)
 Z3:Dj K "cover" "cover" kI A.WM A.Er A.KD
 W0:Binds K A.KD ["paper","most","fixed"] [.none]
 Z4:W.keepIn K (.ref A.Er)=true
 Z5:mg "cover" = some (.ref A.Er)
 W2:fJ K "row_of" "row_of" iB A.xq A.FZ
 W3:Binds K A.FZ ["paper","ranges","known"] []
 W4:W.keepIn K (.ref A.xq)=true
 W8:mg "row_of" = some (.ref A.xq)
 Ux:fJ K "told_by" "told_by" fV A.ur A.Ai
 Uy:Binds K A.Ai ["paper","nodes","known","asked_ahead"] []
 Uz:W.keepIn K (.ref A.ur)=true
 UG:mg "told_by" = some (.ref A.ur)
 Bh:fJ K "asked_ahead_of" "asked_ahead_of" bO A.gK A.j5
 Bj:Binds K A.j5 ["log","word","name"] []
 Bk:W.keepIn K (.ref A.gK)=true
 Bl:mg "asked_ahead_of" = some (.ref A.gK)
 UJ:Dj K "come_to" "come_to" cW A.vL A.uv A.gM
 Bm:Binds K A.gM ["paper","question","most"] []
 QV:Binds K A.gM ["paper","question","most"] A.vL
 QW:Vals [(.int 64)] A.vL
 uy:W.keepIn K (.ref A.uv)=true
 uz:mg "come_to" = some (.ref A.uv)
 QX:fJ K "_law_cell" "_law_cell" eY A.qP A.vM
 j6:Binds K A.vM ["_law_script","_law_k"] []
 j7:W.keepIn K (.ref A.qP)=true
 j8:mg "_law_cell" = some (.ref A.qP)
 QZ:fJ K "_law_name" "_law_name" eZ A.qQ A.vN
 GC:Binds K A.vN ["_law_script","_law_k"] []
 GD:W.keepIn K (.ref A.qQ)=true
 GF:mg "_law_name" = some (.ref A.qQ)
 Q0:fJ K "_law_kind" "_law_kind" fc A.qR A.vO
 Q3:Binds K A.vO ["_law_cell_here"] []
 Q4:W.keepIn K (.ref A.qR)=true
 Q5:mg "_law_kind" = some (.ref A.qR)
 K4:fJ K "_law_object" "_law_object" dC A.mL A.qT
 K6:Binds K A.qT ["_law_kind_here"] []
 K7:W.keepIn K (.ref A.mL)=true
 K8:mg "_law_object" = some (.ref A.mL)
 Ob:fJ K "_law_three" "_law_three" dU A.oW A.sO
 Oc:Binds K A.sO ["_law_how","_law_low","_law_high","_law_number"] []
 Od:W.keepIn K (.ref A.oW)=true
 Oe:mg "_law_three" = some (.ref A.oW)
 UL:fJ K "_law_cut" "_law_cut" fW A.uw A.Aj
 UT:Binds K A.Aj ["_law_how","_law_low","_law_number"] []
 UW:W.keepIn K (.ref A.uw)=true
 U0:mg "_law_cut" = some (.ref A.uw)
 Og:fJ K "_law_alike" "_law_alike" dW A.oY A.sS
 lG:Binds K A.sS ["_law_found","_law_due_here"] []
 lH:W.keepIn K (.ref A.oY)=true
 lJ:mg "_law_alike" = some (.ref A.oY)
 Q6:fJ K "_law_atom" "_law_atom" fj A.qU A.vP
 Q7:Binds K A.vP ["_law_script","_law_kind_here","_law_low","_law_high"] []
 Q8:W.keepIn K (.ref A.qU)=true
 Q9:mg "_law_atom" = some (.ref A.qU)
 K9:fJ K "_law_saying" "_law_saying" dD A.mO A.qW
 La:Binds K A.qW ["_law_script","_law_name_here","_law_kind_here","_law_atom_here"] []
 Lb:W.keepIn K (.ref A.mO)=true
 Ld:mg "_law_saying" = some (.ref A.mO)
 Ra:fJ K "_law_leaf" "_law_leaf" fu A.qX A.vQ
 Rb:Binds K A.vQ ["_law_names","_law_known","_law_denied","_law_low","_law_high"] []
 Rc:W.keepIn K (.ref A.qX)=true
 Rf:mg "_law_leaf" = some (.ref A.qX)
 Oh:fJ K "_law_nodes" "_law_nodes" dX A.oZ A.sU
 Cv:Binds K A.sU ["_law_names","_law_atom_here","_law_denied","_law_span","_law_most"] []
 Cw:W.keepIn K (.ref A.oZ)=true
 Cy:mg "_law_nodes" = some (.ref A.oZ)
 Le:fJ K "_law_sample" "_law_sample" dF A.mQ A.qY
 Lf:Binds K A.qY ["_law_kind_here","_law_rank"] []
 Lg:W.keepIn K (.ref A.mQ)=true
 Lh:mg "_law_sample" = some (.ref A.mQ)
 U3:fJ K "_law_due" "_law_due" fX A.ux A.Ak
 JT:Binds K A.Ak ["_law_names","_law_kind_here","_law_nodes_here"] []
 JV:W.keepIn K (.ref A.ux)=true
 JW:mg "_law_due" = some (.ref A.ux)
 abk:fJ K "law" "law" xj A.WN A.WQ
 ago:mg "law" = some (.ref A.WN)
 GJ:Cj mg "SAMPLE_NAMES" (.ref A.gD)
 GK:∀ H,dH K H A.gD [(.str "a"),(.str "b"),(.str "c"),(.str "d"),(.str "e"),(.str "f")]
 Bo:mg "WRITTEN_TRUTHS" = some (.ref A.qb)
 Bp:ach K A.qb [("yes",true),("no",false)]
 abl:mg "all" = none
 agp:mg "any" = none
 Bq:mg "bool" = none
 Rh:mg "dict" = none
 agq:mg "int" = none
 aH:mg "isinstance" = none
 jC:mg "len" = none
 qZ:mg "list" = none
 Z6:mg "range" = none
 W9:mg "str" = none
 Tu:mg "tuple" = none
 DG:W.kitOne K (.type "NoneType") (.type "bool")=some false
 o7:W.kitOne K (.type "bool") (.type "bool")=some true
 GP:W.kitOne K (.type "int") (.type "bool")=some false
 GQ:W.kitOne K (.type "str") (.type "bool")=some false
 U4:W.kitOne K (.type "int") (.type "int")=some true
 U5:W.kitOne K (.type "int") (.type "str")=some false
 Br:W.kitOne K (.type "str") (.type "str")=some true
 DK:W.kitOne K (.type "NoneType") (.type "list")=some false
 Oi:W.kitOne K (.type "bool") (.type "list")=some false
 Ri:W.kitOne K (.type "int") (.type "list")=some false
 Rj:W.kitOne K (.type "str") (.type "list")=some false
 o8:W.kitOne K (.type "list") (.type "list")=some true
 mR:W.kitOne K (.type "tuple") (.type "list")=some false
 Bs:W.kitOne K (.type "NoneType") (.type "tuple")=some false
 Li:W.kitOne K (.type "bool") (.type "tuple")=some false
 Oj:W.kitOne K (.type "int") (.type "tuple")=some false
 Ol:W.kitOne K (.type "str") (.type "tuple")=some false
 xY:W.kitOne K (.type "list") (.type "tuple")=some false
 uZ:W.kitOne K (.type "tuple") (.type "tuple")=some true
 abm:mg "Ask" = some (.ref A.qd)
 Xa:Cj mg "Ask" (.ref A.qd)
 Z7:mg "ByBox" = some (.ref A.az)
 JX:mg "Compare" = some (.ref A.cJ)
 Z8:mg "Going" = some (.ref A.Tt)
 acz:mg "Is" = some (.ref A.qe)
 atR:Cj mg "Is" (.ref A.qe)
 Rk:mg "Kind" = some (.ref A.WR)
 Z9:mg "Money" = some (.ref A.iJ)
 aaa:mg "Names" = some (.ref A.di)
 aab:Cj mg "Names" (.ref A.di)
 abn:mg "Not" = some (.ref A.rG)
 aac:mg "Paper" = some (.ref A.iK)
 acA:mg "Pick" = some (.ref A.cT)
 acB:Cj mg "Pick" (.ref A.cT)
 agr:mg "Row" = some (.ref A.abj)
 aad:mg "Sheet" = some (.ref A.kO)
 aae:mg "Whole" = some (.ref A.dJ)
 aaf:Cj mg "Whole" (.ref A.dJ)
 Tv:mg "YesNo" = some (.ref A.bB)
 aag:Cj mg "YesNo" (.ref A.bB)
 wA:W.kitOne K (.ref A.qd) (.ref A.qd)=some true
 GR:W.kitOne K (.ref A.bB) (.ref A.bB)=some true
 Iw:W.kitOne K (.ref A.bB) (.ref A.cT)=some false
 Iz:W.kitOne K (.ref A.cT) (.ref A.bB)=some false
 Lj:W.kitOne K (.ref A.cT) (.ref A.cT)=some true
 GX:W.kitOne K (.ref A.dJ) (.ref A.dJ)=some true
 GZ:W.kitOne K (.ref A.dJ) (.ref A.di)=some false
 G6:W.kitOne K (.ref A.iJ) (.ref A.dJ)=some true
 G7:W.kitOne K (.ref A.iJ) (.ref A.di)=some false
 G8:W.kitOne K (.ref A.di) (.ref A.dJ)=some false
 Hd:W.kitOne K (.ref A.di) (.ref A.di)=some true
 Xb:W.kitOne K (.ref A.qe) (.ref A.qe)=some true
 IK:W.kitOne K (.ref A.cJ) (.ref A.qe)=some false
 qj:De K A.bB
 Xc:∀ (H:Hp) (a dx:Addr) (fs:List (Str × V)),H a=some (.ins A.bB dx fs)→aB K H (.ref a) (.ref A.bB)
 Om:Mk K A.bB A.jG
 IV:Meth K A.bB "fits" A.m9
 wB:Meth K A.bB "answer_of" A.gU
 IW:Meth K A.bB "rank" A.nu
 DN:Meth K A.bB "sample" A.jJ
 xZ:aL K A.bB "low"
 vd:aL K A.bB "high"
 Hf:De K A.dJ
 Xd:∀ (H:Hp) (a dx:Addr) (fs:List (Str × V)),H a=some (.ins A.dJ dx fs)→aB K H (.ref a) (.ref A.dJ)
 Xe:Mk K A.dJ A.fO
 DP:Meth K A.dJ "sample" A.gJ
 yc:aL K A.dJ "low"
 vf:aL K A.dJ "high"
 Hg:De K A.iJ
 Xf:∀ (H:Hp) (a dx:Addr) (fs:List (Str × V)),H a=some (.ins A.iJ dx fs)→aB K H (.ref a) (.ref A.iJ)
 Xg:Mk K A.iJ A.fO
 DQ:Meth K A.iJ "sample" A.gJ
 yd:aL K A.iJ "low"
 vg:aL K A.iJ "high"
 Hh:De K A.di
 Xh:∀ (H:Hp) (a dx:Addr) (fs:List (Str × V)),H a=some (.ins A.di dx fs)→aB K H (.ref a) (.ref A.di)
 Xi:Mk K A.di A.jM
 DR:Meth K A.di "sample" A.jO
 ye:aL K A.di "low"
 vh:aL K A.di "high"
 kW:De K A.cT
 aah:∀ (H:Hp) (a dx:Addr) (fs:List (Str × V)),H a=some (.ins A.cT dx fs)→aB K H (.ref a) (.ref A.cT)
 aai:Mk K A.cT A.lO
 Lk:Meth K A.cT "fits" A.pI
 yf:Meth K A.cT "answer_of" A.iR
 Ln:Meth K A.cT "rank" A.pK
 Hi:Meth K A.cT "sample" A.lR
 Cz:aL K A.cT "low"
 yg:aL K A.cT "high"
 kY:aL K A.cT "words"
 tE:De K A.qd
 Rm:∀ (H:Hp) (a dx:Addr) (fs:List (Str × V)),H a=some (.ins A.qd dx fs)→aB K H (.ref a) (.ref A.qd)
 Xj:Mk K A.qd A.nH
 o9:aL K A.qd "name"
 CG:aL K A.qd "kind"
 CJ:aL K A.qd "when"
 iC:De K A.kO
 Xk:Mk K A.kO A.jQ
 Ja:aL K A.kO "name"
 pR:aL K A.kO "each"
 kZ:aL K A.kO "rows"
 vm:aL K A.kO "ways"
 ju:De K A.iK
 Xl:Mk K A.iK A.jT
 Jb:aL K A.iK "name"
 eE:aL K A.iK "sheets"
 rH:aL K A.iK "totals"
 aC:De K A.az
 Xm:Mk K A.az A.jZ
 wC:Meth K A.az "things_of" A.ir
 Lp:Meth K A.az "put" A.pP
 Hj:Meth K A.az "is_so" A.mj
 Jc:Meth K A.az "note" A.nM
 wD:Meth K A.az "stop_with" A.ie
 uP:Meth K A.az "go_through" A.gw
 uQ:Meth K A.az "targets_of" A.gB
 Hk:Meth K A.az "leave" A.lW
 Oo:Meth K A.az "go" A.qD
 wF:Meth K A.az "own_thing" A.gY
 yh:Meth K A.az "known_of" A.iU
 Bu:Meth K A.az "span_of" A.jr
 yj:Meth K A.az "split_at" A.iZ
 yl:Meth K A.az "split_by" A.jc
 jw:aL K A.az "paper"
 oh:aL K A.az "alone"
 ou:aL K A.az "kinds"
 rJ:aL K A.az "eaches"
 jx:aL K A.az "together"
 gG:aL K A.az "asked"
 mU:aL K A.az "log"
 ql:aL K A.az "doubles"
 fB:aL K A.az "over"
 ym:aL K A.az "box"
 gO:aL K A.az "cutting"
 jD:De K A.qe
 ags:∀ (H:Hp) (a dx:Addr) (fs:List (Str × V)),H a=some (.ins A.qe dx fs)→aB K H (.ref a) (.ref A.qe)
 Xn:Mk K A.qe A.pM
 Jd:Meth K A.qe "settled" A.nT
 Rn:Meth K A.qe "sure" A.sE
 Oq:Meth K A.qe "atoms" A.qH
 Bv:Meth K A.qe "first_open" A.dj
 j9:aL K A.qe "name"
 oA:aL K A.qe "word"
 tG:aL K A.qe "place"
 aD:De K A.cJ
 Ro:∀ (H:Hp) (a dx:Addr) (fs:List (Str × V)),H a=some (.ins A.cJ dx fs)→aB K H (.ref a) (.ref A.cJ)
 Hl:Mk K A.cJ A.iW
 wG:Meth K A.cJ "settled" A.ik
 DW:Meth K A.cJ "sure" A.jX
 Bw:Meth K A.cJ "atoms" A.jo
 rQ:Meth K A.cJ "first_open" A.dj
 cX:aL K A.cJ "name"
 dY:aL K A.cJ "how"
 cj:aL K A.cJ "number"
 tH:De K A.rG
 Xo:Mk K A.rG A.nW
 Hn:Meth K A.rG "settled" A.lY
 Ot:Meth K A.rG "sure" A.qJ
 Lq:Meth K A.rG "atoms" A.pN
 yo:Meth K A.rG "first_open" A.dj
 ph:aL K A.rG "test"
 Je:Tg K A.Tt "__init__" A.jV
 q9:Tg K A.WR "__init__" A.fO
 Ou:Tg K A.abj "__init__" A.nC
theorem Bx:au ["self","low","high"] ["self","low","high"] (aa bW):=⟨rfl,rfl,rfl,by symm,rfl,by symm,by symm⟩
theorem yp:au ["self"] ["self"] (aa bC):=⟨rfl,rfl,rfl,by symm,rfl,by symm,by symm⟩
theorem DX:au ["self","thing"] ["self","thing"] (aa cu):=⟨rfl,rfl,rfl,by symm,rfl,by symm,by symm⟩
theorem tK:au ["self","text"] ["self","text"] (aa aQ):=⟨rfl,rfl,rfl,by symm,rfl,by symm,by symm⟩
theorem DY:au ["self","answer"] ["self","answer"] (aa cz):=⟨rfl,rfl,rfl,by symm,rfl,by symm,by symm⟩
theorem yq:au ["self","rank"] ["self","rank"] (aa bD):=⟨rfl,rfl,rfl,by symm,rfl,by symm,by symm⟩
theorem yr:au ["self","rank"] ["self","rank"] (aa bG):=⟨rfl,rfl,rfl,by symm,rfl,by symm,by symm⟩
theorem By:au ["self","words"] ["self","words"] (aa bY):=⟨rfl,rfl,rfl,by symm,rfl,by symm,by symm⟩
theorem Ho:au ["self","thing"] ["self","thing"] (aa cN):=⟨rfl,rfl,rfl,by symm,rfl,by symm,by symm⟩
theorem uR:au ["self","text"] ["self","text"] (aa aX):=⟨rfl,rfl,rfl,by symm,rfl,by symm,by symm⟩
theorem Hq:au ["self","answer"] ["self","answer"] (aa cO):=⟨rfl,rfl,rfl,by symm,rfl,by symm,by symm⟩
theorem BJ:au ["self","rank"] ["self","rank"] (aa bZ):=⟨rfl,rfl,rfl,by symm,rfl,by symm,by symm⟩
theorem yt:au ["self","most"] ["self","most"] (aa bH):=⟨rfl,rfl,rfl,by symm,rfl,by symm,by symm⟩
theorem yu:au ["self","rank"] ["self","rank"] (aa bI):=⟨rfl,rfl,rfl,by symm,rfl,by symm,by symm⟩
theorem Ea:au ["self","name"] ["self","name"] (aa cA):=⟨rfl,rfl,rfl,by symm,rfl,by symm,by symm⟩
theorem Eb:au ["self","name","kind","when"] ["self","name","kind","when"] (aa bV):=⟨rfl,rfl,rfl,by symm,rfl,by symm,by symm⟩
theorem yw:au ["self","name","each","rows","ways"] ["self","name","each","rows","ways"] (aa bJ):=⟨rfl,rfl,rfl,by symm,rfl,by symm,by symm⟩
theorem yx:au ["self","name","sheets","totals"] ["self","name","sheets","totals"] (aa bK):=⟨rfl,rfl,rfl,by symm,rfl,by symm,by symm⟩
theorem pq:au ["paper","kinds","sheet","row"] ["paper"] (aa eG):=⟨rfl,rfl,rfl,by symm,rfl,by symm,by symm⟩
theorem mV:au ["paper","eaches","sheet","row"] ["paper"] (aa dN):=⟨rfl,rfl,rfl,by symm,rfl,by symm,by symm⟩
theorem Ec:au ["paper"] ["paper"] (aa cB):=⟨rfl,rfl,rfl,by symm,rfl,by symm,by symm⟩
theorem yz:au ["self","paper","alone"] ["self","paper","alone"] (aa bL):=⟨rfl,rfl,rfl,by symm,rfl,by symm,by symm⟩
theorem Ed:au ["self","question","thing","known"] ["self","question","thing","known"] (aa cD):=⟨rfl,rfl,rfl,by symm,rfl,by symm,by symm⟩
theorem tL:au ["self","question","thing"] ["self","question","thing"] (aa aR):=⟨rfl,rfl,rfl,by symm,rfl,by symm,by symm⟩
theorem uT:au ["self","question","thing"] ["self","question","thing"] (aa aY):=⟨rfl,rfl,rfl,by symm,rfl,by symm,by symm⟩
theorem tM:au ["self","row"] ["self","row"] (aa aU):=⟨rfl,rfl,rfl,by symm,rfl,by symm,by symm⟩
theorem jE:au ["self","sheet","thing","row"] ["self","sheet","thing"] (aa aN):=⟨rfl,rfl,rfl,by symm,rfl,by symm,by symm⟩
theorem dZ:au ["self","sheet","targets","target","saying"] ["self","sheet"] (aa aO):=⟨rfl,rfl,rfl,by symm,rfl,by symm,by symm⟩
theorem gP:au ["self","place","sheet","targets","names"] ["self","place"] (aa b7):=⟨rfl,rfl,rfl,by symm,rfl,by symm,by symm⟩
theorem iD:au ["self","place","sheet","thing"] ["self"] (aa du):=⟨rfl,rfl,rfl,by symm,rfl,by symm,by symm⟩
theorem Ov:au ["rank","how","number"] ["rank","how","number"] (aa eN):=⟨rfl,rfl,rfl,by symm,rfl,by symm,by symm⟩
theorem je:au ["span","how","number","at_ends","between"] ["span","how","number"] (aa bu):=⟨rfl,rfl,rfl,by symm,rfl,by symm,by symm⟩
theorem jy:au ["self","look","atom"] ["self","look"] (aa aK):=⟨rfl,rfl,rfl,by symm,rfl,by symm,by symm⟩
theorem Hr:au ["self","name","word","place"] ["self","name","word","place"] (aa cF):=⟨rfl,rfl,rfl,by symm,rfl,by symm,by symm⟩
theorem Jf:au ["self"] ["self"] (aa dw):=⟨rfl,rfl,rfl,by symm,rfl,by symm,by symm⟩
theorem mq:au ["self","kinds","kind","answer"] ["self","kinds"] (aa cG):=⟨rfl,rfl,rfl,by symm,rfl,by symm,by symm⟩
theorem Lr:au ["self","look"] ["self","look"] (aa dO):=⟨rfl,rfl,rfl,by symm,rfl,by symm,by symm⟩
theorem uU:au ["self","name","how","number"] ["self","name","how","number"] (aa aZ):=⟨rfl,rfl,rfl,by symm,rfl,by symm,by symm⟩
theorem wH:au ["self"] ["self"] (aa bw):=⟨rfl,rfl,rfl,by symm,rfl,by symm,by symm⟩
theorem tO:au ["self","kinds"] ["self","kinds"] (aa aV):=⟨rfl,rfl,rfl,by symm,rfl,by symm,by symm⟩
theorem zb:au ["self","look"] ["self","look"] (aa bM):=⟨rfl,rfl,rfl,by symm,rfl,by symm,by symm⟩
theorem Ef:au ["self","test"] ["self","test"] (aa cH):=⟨rfl,rfl,rfl,by symm,rfl,by symm,by symm⟩
theorem Hs:au ["self"] ["self"] (aa cQ):=⟨rfl,rfl,rfl,by symm,rfl,by symm,by symm⟩
theorem BK:au ["self","kinds"] ["self","kinds"] (aa b8):=⟨rfl,rfl,rfl,by symm,rfl,by symm,by symm⟩
theorem vo:au ["self","look","told"] ["self","look"] (aa dB):=⟨rfl,rfl,rfl,by symm,rfl,by symm,by symm⟩
theorem CK:au ["box","kinds","question","k","kind"] ["box","kinds","question","k"] (aa eO):=⟨rfl,rfl,rfl,by symm,rfl,by symm,by symm⟩
theorem Rp:au ["number","low"] ["number","low"] (aa fU):=⟨rfl,rfl,rfl,by symm,rfl,by symm,by symm⟩
theorem U6:au ["atom","low"] ["atom","low"] (aa iz):=⟨rfl,rfl,rfl,by symm,rfl,by symm,by symm⟩
theorem zc:au ["self","paper","box"] ["self","paper","box"] (aa bN):=⟨rfl,rfl,rfl,by symm,rfl,by symm,by symm⟩
theorem uV:au ["self","question","thing","cut"] ["self","question","thing","cut"] (aa bc):=⟨rfl,rfl,rfl,by symm,rfl,by symm,by symm⟩
theorem tQ:au ["self","sheet","span"] ["self","sheet"] (aa aW):=⟨rfl,rfl,rfl,by symm,rfl,by symm,by symm⟩
theorem Ht:au ["self","question","thing"] ["self","question","thing"] (aa cR):=⟨rfl,rfl,rfl,by symm,rfl,by symm,by symm⟩
theorem wI:au ["self","name","thing","together","low","high","times","question","span","ends"] ["self","name","thing"] (aa bz):=⟨rfl,rfl,rfl,by symm,rfl,by symm,by symm⟩
theorem gQ:au ["self","saying","thing","settled","look","told"] ["self","saying","thing"] (aa aM):=⟨rfl,rfl,rfl,by symm,rfl,by symm,by symm⟩
theorem mD:au ["self","atom","thing","low"] ["self","atom","thing"] (aa bf):=⟨rfl,rfl,rfl,by symm,rfl,by symm,by symm⟩
theorem CN:au ["paper","box","going"] ["paper","box"] (aa eQ):=⟨rfl,rfl,rfl,by symm,rfl,by symm,by symm⟩
theorem zf:au ["log","box","kinds","asked"] ["log","box","kinds"] (aa dR):=⟨rfl,rfl,rfl,by symm,rfl,by symm,by symm⟩
theorem CP:au ["box","question","k","span","part"] ["box","question","k","span"] (aa eU):=⟨rfl,rfl,rfl,by symm,rfl,by symm,by symm⟩
theorem CQ:au ["box","kinds","question","k","cut","span"] ["box","kinds","question","k","cut"] (aa eV):=⟨rfl,rfl,rfl,by symm,rfl,by symm,by symm⟩
theorem jz:au ["paper","most","fixed","kinds","boxes","nodes","splits","box","told","split"] ["paper","most","fixed"] (aa kI):=⟨rfl,rfl,rfl,by symm,rfl,by symm,by symm⟩
theorem fY:au ["paper","ranges","known","kinds","eaches","answers","row","question","k","low","high","each"] ["paper","ranges","known"] (aa iB):=⟨rfl,rfl,rfl,by symm,rfl,by symm,by symm⟩
theorem rn:au ["paper","nodes","known","asked_ahead","leaves","leaf","count"] ["paper","nodes","known","asked_ahead"] (aa fV):=⟨rfl,rfl,rfl,by symm,rfl,by symm,by symm⟩
theorem gh:au ["log","word","name","count","row"] ["log","word","name"] (aa bO):=⟨rfl,rfl,rfl,by symm,rfl,by symm,by symm⟩
theorem Rq:au ["paper","question","most"] ["paper","question","most"] (aa cW):=⟨rfl,rfl,rfl,by symm,rfl,by symm,by symm⟩
theorem Ow:au ["_law_script","_law_k"] ["_law_script","_law_k"] (aa eY):=⟨rfl,rfl,rfl,by symm,rfl,by symm,by symm⟩
theorem pA:au ["_law_script","_law_k","_law_some","_law_pad","_law_middle"] ["_law_script","_law_k"] (aa eZ):=⟨rfl,rfl,rfl,by symm,rfl,by symm,by symm⟩
theorem CT:au ["_law_cell_here","_law_low"] ["_law_cell_here"] (aa fc):=⟨rfl,rfl,rfl,by symm,rfl,by symm,by symm⟩
theorem Jg:au ["_law_kind_here"] ["_law_kind_here"] (aa dC):=⟨rfl,rfl,rfl,by symm,rfl,by symm,by symm⟩
theorem Ls:au ["_law_how","_law_low","_law_high","_law_number"] ["_law_how","_law_low","_law_high","_law_number"] (aa dU):=⟨rfl,rfl,rfl,by symm,rfl,by symm,by symm⟩
theorem Rr:au ["_law_how","_law_low","_law_number"] ["_law_how","_law_low","_law_number"] (aa fW):=⟨rfl,rfl,rfl,by symm,rfl,by symm,by symm⟩
theorem zg:au ["_law_found","_law_due_here","_law_k"] ["_law_found","_law_due_here"] (aa dW):=⟨rfl,rfl,rfl,by symm,rfl,by symm,by symm⟩
theorem tR:au ["_law_script","_law_kind_here","_law_low","_law_high","_law_cell_here","_law_number"] ["_law_script","_law_kind_here","_law_low","_law_high"] (aa fj):=⟨rfl,rfl,rfl,by symm,rfl,by symm,by symm⟩
theorem lq:au ["_law_script","_law_name_here","_law_kind_here","_law_atom_here","_law_said"] ["_law_script","_law_name_here","_law_kind_here","_law_atom_here"] (aa dD):=⟨rfl,rfl,rfl,by symm,rfl,by symm,by symm⟩
theorem tU:au ["_law_names","_law_known","_law_denied","_law_low","_law_high","_law_log","_law_ranges"] ["_law_names","_law_known","_law_denied","_law_low","_law_high"] (aa fu):=⟨rfl,rfl,rfl,by symm,rfl,by symm,by symm⟩
theorem dG:au ["_law_names","_law_atom_here","_law_denied","_law_span","_law_most","_law_spans","_law_nodes_here","_law_splits","_law_low","_law_high","_law_known","_law_cut_here"] ["_law_names","_law_atom_here","_law_denied","_law_span","_law_most"] (aa dX):=⟨rfl,rfl,rfl,by symm,rfl,by symm,by symm⟩
theorem Jh:au ["_law_kind_here","_law_rank"] ["_law_kind_here","_law_rank"] (aa dF):=⟨rfl,rfl,rfl,by symm,rfl,by symm,by symm⟩
theorem rA:au ["_law_names","_law_kind_here","_law_nodes_here","_law_word","_law_node"] ["_law_names","_law_kind_here","_law_nodes_here"] (aa fX):=⟨rfl,rfl,rfl,by symm,rfl,by symm,by symm⟩
theorem my:au ["_law_script","_law_names","_law_kind_here","_law_atom_here","_law_said","_law_denied","_law_rows","_law_paper","_law_most","_law_due_here","_law_found"] ["_law_script"] (aa xj):=⟨rfl,rfl,rfl,by symm,rfl,by symm,by symm⟩
seal PE PT PW PA PS m6 PG uC PI PO ji iw wN cg jj rN rM PC wW
local macro_rules | `(tactic| walk_at "rd1") => `(tactic| first
 | (refine And.intro rfl ?_)
 | (refine And.intro (by assumption) ?_)
 | (refine And.intro (fun _ e=>e) ?_)
 | (refine And.intro (aB.str _) ?_) | (refine And.intro (aB.int _) ?_) | (refine And.intro (aB.bl _) ?_) | (refine And.intro aB.non ?_)
 | (refine bA ?_) | (refine aF ?_)
 | (apply Exists.intro))
local macro_rules | `(tactic| walk_at "rd") => `(tactic| repeat (walk_at "rd1"))
theorem len_app (x y:Str):(x++y).length=x.length+y.length:=by rw [m7,Aa,List.length_append,← m7,← m7]
theorem zj {t u:TS}{D:Ends}{σ:St}{H:Hp} (R:St→Hp→Prop) (hk:∀ σ' H',R σ' H'→u D σ' H') (hm:∀ N:St→Hp→Prop,(∀ σ' H',R σ' H'→N σ' H')→t { D with nx:=N } σ H):Zn t u D σ H:=hm _ hk
theorem Xp (i:Int) (h0:0≤i) (h1:i<26):iM ("abcdefghijklmnopqrstuvwxyz":Str).cps.toList i=some (97+i.toNat):=by
 have e:("abcdefghijklmnopqrstuvwxyz":Str).cps.toList=(List.range 26).map (97+·):=by symm
 obtain⟨c,hc,hc2⟩:=qy (l:=("abcdefghijklmnopqrstuvwxyz":Str).cps.toList) h0 (by rw [e];simpa using h1)
 rw [hc]
 rw [e,List.getElem?_map,List.getElem?_range (by omega)] at hc2
 exact hc2.symm
theorem agt {x:Int} (h0:0≤x) (h:x<2 ^ 63):ib x≤60000000:=Nat.le_trans (Wb (by omega) (by omega)) (by decide)
theorem ibc {x:Int} (h:x.natAbs<2 ^ 256):ib x≤60000000:=Nat.le_trans (acb (m:=256) h) (by decide)
theorem agu {c:Bool}{A B:Prop} (h:c=false) (k:B):if c=true then A else B:=by rw [if_neg (by rw [h];decide)];exact k
theorem aaj {σ:St}{H:Hp}{a b:Hp→Prop} (h:a H):abd σ H (fun c H3=>if c=true then a H3 else b H3):=by
 show if true=true then a H else b H
 exact bA h
theorem zH {α β:Type}{R R':α→β→Prop}{as:List α}{bs:List β} (h:Paired R as bs) (f:∀ a b,R a b→R' a b):Paired R' as bs:=by
 induction h with
 | nil=>exact .nil
 | cons r _ ih=>exact .cons (f _ _ r) ih
theorem xH {α β:Type}{R:α→β→Prop}{as as':List α}{bs bs':List β} (h:Paired R as bs) (k:Paired R as' bs'):Paired R (as++as') (bs++bs'):=by
 induction h with
 | nil=>exact k
 | cons r _ ih=>exact .cons r ih
theorem yF {α β:Type}{R:α→β→Prop}:∀ {as:List α}{bs:List β}{i:Nat}{a:α},Paired R as bs→as[i]? = some a→∃ b,bs[i]? = some b∧R a b
 | _,_,0,_,.cons h _,e=>by cases e;exact⟨_,rfl,h⟩
 | _,_,i+1,_,.cons _ t,e=>yF (i:=i) t e
theorem wJ {α β:Type}{R:α→β→Prop}:∀ {as:List α}{bs:List β}{i:Nat}{b:β},Paired R as bs→bs[i]? = some b→∃ a,as[i]? = some a∧R a b
 | _,_,0,_,.cons h _,e=>by cases e;exact⟨_,rfl,h⟩
 | _,_,i+1,_,.cons _ t,e=>wJ (i:=i) t e
theorem zV {α β:Type}{R:α→β→Prop}{as:List α}{bs:List β} (h:Paired R as bs):as.length=bs.length:=Paired.length h
theorem take_snoc {α:Type}{l:List α}{i:Nat}{x:α} (h:l[i]? = some x):l.take (i+1)=l.take i++[x]:=by rw [List.take_succ,h];rfl
abbrev E40:Int:=10000000000000000000000000000000000000000
theorem p40:(10:Int) ^ (40:Int).toNat=E40:=by symm
def iG (ns:List Int) (k:Nat):Int:=if k<ns.length then ns.getD k 0 % E40 else 0
theorem aak (ns:List Int) (k:Nat):0≤iG ns k∧iG ns k<E40:=by
 unfold iG
 split
 · exact⟨Int.emod_nonneg _ (by decide),Int.emod_lt_of_pos _ (by decide)⟩
 · exact⟨by decide,by decide⟩
def acC (K:W.Frag):Sp:=fun vs H Q _=>∃ (a:Addr) (ns:List Int) (k:Nat),vs=[.ref a,.int k]∧bR K H a (ns.map V.int)∧Q (.int (iG ns k)) H
section
variable {P:Program}{w:World}{K:W.Frag}{mg:Str→Option Value}{base:Heap}{A:cM}
theorem pB (T:Txt K mg A):aG P w K mg base bQ 1 A.qP A.vM ["_law_script","_law_k"] (acC K):=by
 refine T.QX.ok Ow (fun vs H Q E h=>?_) (fun cdv A0 outer s H vs Q E hr h=>?_)
 · obtain⟨a,ns,k,rfl,_⟩:=h
   rfl
 obtain⟨a,ns,k,rfl,hS,q⟩:=h
 refine⟨_,(zC (zZ (zL oM (pv 1) (zW yB (by rfl) T.jC PySem.boot_len (zA (pv 0) zD)) (zN _)) (zE (zK (zY yX (zS bj (pv 0) (pv 1) (fun _ _=>rfl)) (zY Ke zF zF)))) zP)
     (zE (zK zF))),?_⟩
 have eL:((ns.map V.int).length:Nat)=ns.length:=List.length_map ..
 refine⟨_,rfl,_,rfl,a,_,rfl,.inl hS,_,_,rfl,rfl,_,rfl,?_⟩
 refine lC (fun c=>?_) (fun c=>?_)
 · have c':(k:Int)<((ns.map V.int).length:Nat):=of_decide_eq_true c
   have c2:k<ns.length:=by rw [eL] at c';omega
   obtain⟨v,hv,hv2⟩:=qy (l:=ns.map V.int) (i:=(k:Int)) (by omega) c'
   obtain⟨n,hn,rfl⟩:=oO hv2
   have e:iG ns k=n % E40:=by
     unfold iG
     rw [if_pos c2,List.getD_eq_getElem?_getD,show ns[k]? = some n from hn]
     rfl
   rw [e] at q
   refine⟨_,rfl,_,rfl,a,_,_,_,rfl,rfl,hS,hv,_,_,rfl,rfl,⟨by decide,by decide,by symm⟩,_,_,rfl,rfl,?_,?_⟩
   · show (0:Int)<(10:Int) ^ (40:Int).toNat
     rw [p40];decide
   · show Q (.int (n % (10:Int) ^ (40:Int).toNat)) H
     rw [p40];exact q
 · have c2:¬ k<ns.length:=fun z=>c (decide_eq_true (by rw [eL];omega))
   unfold iG at q
   rw [if_neg c2] at q
   exact q
end
def nmF (p:Int) (k:Nat):Str:=S (m8 [120] (p % 4).toNat)++(S [97+(((k:Int)*5+p / 20) % 26).toNat]++S [97+k])++S (m8 [121] (p / 4 % 5).toNat)
theorem Xq (l:List Nat) (p:Int) (m:Nat) (h:p.toNat≤m) (hl:l.length=1):(m8 l p.toNat).length≤m:=by rw [Ft,hl];omega
theorem abp (p:Int) (k:Nat):cd (nmF p k)=m8 [120] (p % 4).toNat++([97+(((k:Int)*5+p / 20) % 26).toNat]++[97+k])++m8 [121] (p / 4 % 5).toNat:=by
 unfold nmF
 rw [Aa,Aa,Aa]
 rfl
theorem acD {p:Int}{j k:Nat} (e:nmF p j=nmF p k):j=k:=by
 have e2:=congrArg cd e
 rw [abp,abp,List.append_assoc,List.append_assoc,List.append_assoc,List.append_assoc] at e2
 have e3:=List.append_cancel_left e2
 have e4:=(List.cons.inj (List.cons.inj e3).2).1
 omega
def acE (K:W.Frag):Sp:=fun vs H Q _=>∃ (a:Addr) (ns:List Int) (k:Nat),vs=[.ref a,.int k]∧bR K H a (ns.map V.int)∧k<26∧Q (.str (nmF (iG ns 0) k)) H
section
variable {P:Program}{w:World}{K:W.Frag}{mg:Str→Option Value}{base:Heap}{A:cM}
theorem Ox (T:Txt K mg A):aG P w K mg base bQ 2 A.qQ A.vN ["_law_script","_law_k"] (acE K):=by
 have fM:=pB (P:=P) (w:=w) (base:=base) T
 refine T.QZ.ok pA (fun vs H Q E h=>?_) (fun cdv A0 outer s H vs Q E hr h=>?_)
 · obtain⟨a,ns,k,rfl,_⟩:=h
   rfl
 obtain⟨a,ns,k,rfl,hS,hk,q⟩:=h
 refine⟨_,(zC (zT (i:=2) pA.nd rfl ‹0› zM)
     (zC (zT (i:=3) pA.nd rfl ‹0› (zU fM ‹hr› rfl T.j8 T.j7 T.j6 .nil zQ (zA (pv 0) (zA zF zD))))
     (zC (zT (i:=4) pA.nd rfl ‹0› (zY vq (zS VR (pv 2) (zY yX (zY xE (zY Ks (pv 1) zF) (zY kE (pv 3) zF)) zF) (fun _ _=>rfl)) (zS VR (pv 2) (pv 1) (fun _ _=>rfl))))
     (zE (zK (zY vq (zY vq (zY Fv zM (zY yX (pv 3) zF)) (pv 4)) (zY Fv zM (zY yX (zY kE (pv 3) zF) zF)))))))),?_⟩
 refine⟨_,rfl,a,ns,0,rfl,hS,?_⟩
 generalize iG ns 0=p at q
 have a0:=Int.emod_nonneg p (b:=4) (by decide)
 have a1:=Int.emod_lt_of_pos p (b:=4) (by decide)
 have b0:=Int.emod_nonneg (p / 4) (b:=5) (by decide)
 have b1:=Int.emod_lt_of_pos (p / 4) (b:=5) (by decide)
 have d0:=Int.emod_nonneg ((k:Int)*5+p / 20) (b:=26) (by decide)
 have d1:=Int.emod_lt_of_pos ((k:Int)*5+p / 20) (b:=26) (by decide)
 have r1:=Xq [120] (p % 4) 4 (by omega) rfl
 have r2:=Xq [121] (p / 4 % 5) 5 (by omega) rfl
 have l1:(S (m8 (cd ‹"x"›) (p % 4).toNat)).length≤4:=by rw [m7,aca];exact r1
 have l2:(S (m8 (cd ‹"y"›) (p / 4 % 5).toNat)).length≤5:=by rw [m7,aca];exact r2
 have lx:‹"x"›.length=1:=by symm
 have ly:‹"y"›.length=1:=by symm
 have lz:("abcdefghijklmnopqrstuvwxyz":Str).length=26:=by symm
 have c0:=Xp (((k:Int)*5+p / 20) % 26) d0 d1
 have c1:=Xp (k:Int) (by omega) (by omega)
 have ls:∀ c:Nat,(⟨#[c]⟩:Str).length=1:=fun c=>rfl
 refine⟨_,rfl,_,rfl,_,_,rfl,rfl,⟨agt (by omega) (by omega),agt (by decide) (by decide)⟩,_,rfl,_,_,rfl,rfl,⟨by decide,by decide⟩,_,_,rfl,rfl,_,_,rfl,rfl,(by show (0:Int)<26;decide),_,_,_,rfl,rfl,(by rw [lz,sizeLine_eq];omega),c0,?_⟩
 refine⟨_,rfl,_,rfl,_,_,_,rfl,rfl,(by rw [lz,sizeLine_eq];omega),c1,_,_,rfl,rfl,(by rw [sizeLine_eq];rw [ls,ls];decide),?_⟩
 have e1:(97+(k:Int).toNat)=97+k:=by omega
 rw [e1]
 generalize hc:97+(((k:Int)*5+p / 20) % 26).toNat=cc
 have q':Q (.str (S (m8 [120] (p % 4).toNat)++(S [cc]++S [97+k])++S (m8 [121] (p / 4 % 5).toNat))) H:=by rw [← hc];exact q
 refine⟨_,rfl,_,_,rfl,rfl,(by show (0:Int)<4;decide),_,_,rfl,rfl,a0,(by omega),(by rw [lx];omega),(by rw [lx];omega),?_⟩
 refine⟨_,rfl,_,_,rfl,rfl,(by rw [sizeLine_eq,len_app,ls,ls];omega),?_⟩
 refine⟨_,rfl,_,_,rfl,rfl,⟨by decide,by decide⟩,_,_,rfl,rfl,(by show (0:Int)<5;decide),_,_,rfl,rfl,b0,(by omega),(by rw [ly];omega),(by rw [ly];omega),?_⟩
 exact⟨_,_,rfl,rfl,(by rw [sizeLine_eq,len_app,len_app,ls,ls];omega),q'⟩
end
theorem lK {H:Hp}{a b:Addr}{o:HO} (h:upd H a o b=none):b≠a∧H b=none:=by
 by_cases e:b=a
 · subst e;rw [zB] at h;cases h
 · exact⟨e,by rw [zI e] at h;exact h⟩
theorem yE {H H':Hp} (s:aA H H') {b:Addr} (h:H' b=none):H b=none:=by
 cases e:H b with
 | none=>rfl
 | some o=>rw [s b o e] at h;cases h
def Fr (M:List Addr) (H H':Hp):Prop:=∀ b o,H b=some o→b∉M→H' b=some o
theorem Fr.of {M:List Addr}{H H':Hp} (s:aA H H'):Fr M H H':=fun b o h _=>s b o h
theorem Fr.trans {M:List Addr}{H H' PL:Hp} (a:Fr M H H') (b:Fr M H' PL):Fr M H PL:=fun x o h n=>b x o (a x o h n) n
theorem Fr.upd {M:List Addr}{H H':Hp} (a:Fr M H H') {m:Addr} (h:m∈M) (o:HO):Fr M H (upd H' m o):=fun x u hx n=>by
 rw [zI (fun e=>n (by rw [e];exact h))];exact a x u hx n
theorem Fr.new {M:List Addr}{H H':Hp} (a:Fr M H H') {m:Addr} (h:H' m=none) (o:HO):Fr M H (L2.upd H' m o):=fun x u hx n=>by
 have:=a x u hx n
 rw [zI (zJ this h)];exact this
theorem Fr.more {M M':List Addr}{H H':Hp} (a:Fr M H H') (h:∀ m∈M,m∈M'):Fr M' H H':=fun x u hx n=>a x u hx fun e=>n (h x e)
theorem Lw {M:List Addr}{H H':Hp} (a:Fr M H H') {b:Addr} (n:b∉M) (h:H' b=none):H b=none:=by
 cases e:H b with
 | none=>rfl
 | some o=>rw [a b o e n] at h;cases h
theorem rB {x a:Addr} (h:x≠a):x∉[a]:=fun e=>h (List.mem_singleton.mp e)
abbrev Ji (A:cM) (dx:Addr) (u1 u2 u3:V):HO:=.ins A.qd dx [("name",u1),("kind",u2),("when",u3)]
abbrev oSh (A:cM) (dx:Addr) (u1 u2:V) (q1 q2:Addr):HO:=.ins A.kO dx [("name",u1),("each",u2),("rows",.ref q1),("ways",.ref q2)]
abbrev oPa (A:cM) (dx:Addr) (u1:V) (q1 q2:Addr):HO:=.ins A.iK dx [("name",u1),("sheets",.ref q1),("totals",.ref q2)]
def acF (K:W.Frag):Sp:=fun vs H Q _=>∃ p C dx u1,vs=[.ref p,u1]∧H p=some (.ins C dx [])∧De K C∧aL K C "name"∧Q .non (upd H p (.ins C dx [("name",u1)]))
def acG (A:cM):Sp:=fun vs H Q _=>∃ p dx u1 u2 u3,vs=[.ref p,u1,u2,u3]∧H p=some (.ins A.qd dx [])∧Q .non (upd H p (Ji A dx u1 u2 u3))
def Xr (A:cM) (K:W.Frag):Sp:=fun vs H Q _=>∃ p dx u1 u2 l1 l2 xs ys,vs=[.ref p,u1,u2,.ref l1,.ref l2]∧H p=some (.ins A.kO dx [])∧H l1=some (.lst xs)∧H l2=some (.lst ys) ∧
 ∀ q1 q2 H',q1≠q2→H q1=none→H q2=none→Fr [p] H H'→H' p=some (oSh A dx u1 u2 q1 q2)→H' q1=some (.lst xs)→H' q2=some (.lst ys)→Q .non H'
def Xu (A:cM) (K:W.Frag):Sp:=fun vs H Q _=>∃ p dx u1 l1 l2 xs,vs=[.ref p,u1,.ref l1,.ref l2]∧H p=some (.ins A.iK dx [])∧H l1=some (.lst xs)∧H l2=some (.lst []) ∧
 ∀ q1 q2 H',Fr [p] H H'→H' p=some (oPa A dx u1 q1 q2)→H' q1=some (.lst xs)→H' q2=some (.lst [])→Q .non H'
def acH (K:W.Frag):Sp:=fun vs H Q _=>∃ p C dx lo hi,vs=[.ref p,lo,hi]∧H p=some (.ins C dx [])∧De K C∧aL K C "low"∧aL K C "high"∧Q .non (upd H p (.ins C dx [("low",lo),("high",hi)]))
def acI (A:cM):Sp:=fun vs H Q _=>∃ p dx,vs=[.ref p]∧H p=some (.ins A.bB dx [])∧Q .non (upd H p (.ins A.bB dx [("low",.int 0),("high",.int 1)]))
def agv (A:cM):Sp:=fun vs H Q _=>∃ p dx u1 u2 u3,vs=[.ref p,u1,u2,u3]∧H p=some (.ins A.qe dx [])∧Q .non (upd H p (.ins A.qe dx [("name",u1),("word",u2),("place",u3)]))
def agw (A:cM):Sp:=fun vs H Q _=>∃ p dx u1,vs=[.ref p,u1]∧H p=some (.ins A.rG dx [])∧Q .non (upd H p (.ins A.rG dx [("test",u1)]))
def agx (A:cM):Sp:=fun vs H Q _=>∃ p dx u1 u2 u3,vs=[.ref p,u1,u2,u3]∧H p=some (.ins A.cJ dx [])∧Q .non (upd H p (.ins A.cJ dx [("name",u1),("how",u2),("number",u3)]))
abbrev YN:List (Str × Bool):=[("yes",true),("no",false)]
def bv:Option Bool→V
 | none=>.non
 | some b=>.bl b
def rkB (b:Bool):Int:=if b=true then 1 else 0
def acJ:Sp:=fun vs H Q _=>∃ (p:V) (o:Option Bool),vs=[p,bv o]∧Q (.bl o.isSome) H
def acK:Sp:=fun vs H Q _=>∃ (p:V) (z:Str),vs=[p,.str z]∧Q (Fw YN z) H
def aal:Sp:=fun vs H Q _=>∃ (p:V) (b:Bool),vs=[p,.bl b]∧Q (.int (if b=true then 1 else 0)) H
theorem acL {ws:List Str}{t:Str}{j:Nat} (hd:ws.Nodup) (h:ws[j]? = some t):abb (V.str t) (ws.map V.str) j:=by
 refine⟨.str t,by rw [List.getElem?_map,h];rfl,Nq rfl,fun m z hm hz=>?_⟩
 obtain⟨y',hy',rfl⟩:=oO hz
 show (y' == t)=false
 rw [beq_eq_false_iff_ne]
 intro e
 subst e
 obtain⟨l1,e1⟩:=List.getElem?_eq_some_iff.mp h
 obtain⟨l2,e2⟩:=List.getElem?_eq_some_iff.mp hy'
 exact (List.pairwise_iff_getElem.mp hd) m j l2 l1 hm (e2.trans e1.symm)
theorem JZ (ws:List Str):(ws.map V.str).all fH=true:=by rw [List.all_map,List.all_eq_true];intro _ _;rfl
theorem Oz (z:Str) (ws:List Str):inV (.str z) (ws.map V.str)=decide (z∈ws):=by
 unfold inV
 rw [List.any_map,Bool.eq_iff_iff,List.any_eq_true,decide_eq_true_iff]
 constructor
 · rintro ⟨y,hy,e⟩
   have:y=z:=eq_of_beq e
   rw [← this];exact hy
 · intro h;exact⟨z,h,by show (z == z)=true;exact beq_self_eq_true z⟩
def Xv (A:cM):Sp:=fun vs H Q _=>∃ p dx u,vs=[.ref p,u]∧H p=some (.ins A.di dx [])∧Q .non (upd H p (.ins A.di dx [("low",.int 0),("high",u)]))
def aam (A:cM):Sp:=fun vs H Q _=>∃ (p dx l:Addr) (ws:List Str),vs=[.ref p,.ref l]∧H p=some (.ins A.cT dx [])∧H l=some (.lst (ws.map V.str))∧ws.length≤100∧∀ q H',Fr [p] H H'→H' p=some (.ins A.cT dx [("low",.int 0),("high",.int (ws.length - 1)),("words",.ref q)])→H' q=some (.lst (ws.map V.str))→Q .non H'
def acM (A:cM):Sp:=fun vs H Q _=>∃ (k dk qa:Addr) (ws:List Str) (hi:V) (j:Nat) (z:Str),vs=[.ref k,.str z]∧H k=some (.ins A.cT dk [("low",.int 0),("high",hi),("words",.ref qa)])∧H qa=some (.lst (ws.map V.str))∧ws.Nodup∧ws[j]? = some z∧Q (.bl true) H
def aan (A:cM):Sp:=fun vs H Q _=>∃ (k dk qa:Addr) (ws:List Str) (hi:V) (j:Nat) (z:Str),vs=[.ref k,.str z]∧H k=some (.ins A.cT dk [("low",.int 0),("high",hi),("words",.ref qa)])∧H qa=some (.lst (ws.map V.str))∧ws.Nodup∧ws[j]? = some z∧Q (.int (j:Nat)) H
section
variable {P:Program}{w:World}{K:W.Frag}{mg:Str→Option Value}{base:Heap}{A:cM}
theorem mW (T:Txt K mg A):aG P w K mg base bQ 1 A.fO A.lN ["self","low","high"] (acH K):=by
 refine T.Dk.ok Bx (fun vs H Q E h=>?_) (fun cdv A0 outer s H vs Q E hr h=>?_)
 · obtain⟨p,C,dx,lo,hi,rfl,_⟩:=h
   rfl
 obtain⟨p,C,dx,lo,hi,rfl,hp,cl,n1,n2,q⟩:=h
 refine⟨_,(zC (yI (pv 0) (pv 1) rfl)
     (zE (yI (pv 0) (pv 2) rfl))),?_⟩
 refine⟨_,rfl,_,rfl,p,C,dx,_,rfl,hp,cl,n1,by decide,?_⟩
 refine⟨_,rfl,_,rfl,p,C,dx,_,rfl,zB,cl,n2,(by show 1<1000;decide),?_⟩
 rw [yH]
 exact q
theorem OD (T:Txt K mg A):aG P w K mg base bQ 1 A.nC A.nG ["self","name"] (acF K):=by
 refine T.Gg.ok Ea (fun vs H Q E h=>?_) (fun cdv A0 outer s H vs Q E hr h=>?_)
 · obtain⟨p,C,dx,u1,rfl,_⟩:=h
   rfl
 obtain⟨p,C,dx,u1,rfl,hp,cl,na,q⟩:=h
 refine⟨_,(zE (yI (pv 0) (pv 1) rfl)),?_⟩
 exact⟨_,rfl,_,rfl,p,_,dx,_,rfl,hp,cl,na,by decide,q⟩
theorem OJ (T:Txt K mg A):aG P w K mg base bQ 3 A.nH A.jl ["self","name","kind","when"] (acG A):=by
 have Hu:=OD (P:=P) (w:=w) (base:=base) T
 refine T.Gi.ok Eb (fun vs H Q E h=>?_) (fun cdv A0 outer s H vs Q E hr h=>?_)
 · obtain⟨p,dx,u1,u2,u3,rfl,_⟩:=h
   rfl
 obtain⟨p,dx,u1,u2,u3,rfl,hp,q⟩:=h
 refine⟨_,(zC (yG (rZ T.Ou Hu ‹hr› rfl T.agr T.Gh zQ (zA (pv 0) (zA (pv 1) zD))))
     (zC (yI (pv 0) (pv 2) rfl)
     (zE (yI (pv 0) (pv 3) rfl)))),?_⟩
 refine⟨_,rfl,_,rfl,p,_,dx,u1,rfl,hp,T.tE,T.o9,?_⟩
 refine⟨_,rfl,_,rfl,p,_,dx,_,rfl,zB,T.tE,T.CG,(by show 1<1000;decide),?_⟩
 refine⟨_,rfl,_,rfl,p,_,dx,_,rfl,zB,T.tE,T.CJ,(by show 2<1000;decide),?_⟩
 rw [yH,yH]
 exact q
theorem Jj (T:Txt K mg A):aG P w K mg base bQ 1 A.jQ A.jR ["self","name","each","rows","ways"] (Xr A K):=by
 refine T.Ax.ok yw (fun vs H Q E h=>?_) (fun cdv A0 outer s H vs Q E hr h=>?_)
 · obtain⟨p,dx,u1,u2,l1,l2,xs,ys,rfl,_⟩:=h
   rfl
 obtain⟨p,dx,u1,u2,l1,l2,xs,ys,rfl,hp,h1,h2,q⟩:=h
 refine⟨_,(zC (yI (pv 0) (pv 1) rfl)
     (zC (yI (pv 0) (pv 2) rfl)
     (zC (yI (pv 0) (xQ xV (by rfl) T.qZ Bt.list (zA (pv 3) zD)) rfl)
     (zE (yI (pv 0) (xQ xV (by rfl) T.qZ Bt.list (zA (pv 4) zD)) rfl))))),?_⟩
 have n1:l1≠p:=yN h1 hp (by intro z;cases z)
 have n2:l2≠p:=yN h2 hp (by intro z;cases z)
 refine⟨_,rfl,_,rfl,p,_,dx,_,rfl,hp,T.iC,T.Ja,by decide,?_⟩
 refine⟨_,rfl,_,rfl,p,_,dx,_,rfl,zB,T.iC,T.pR,(by show 1<1000;decide),?_⟩
 rw [yH]
 refine⟨_,rfl,l1,xs,rfl,.inl (bR.of (by rw [zI n1];exact h1)),fun q1 hq1=>?_⟩
 obtain⟨e1,f1⟩:=lK hq1
 refine⟨_,rfl,p,_,dx,_,rfl,(by rw [zI (Ne.symm e1)];exact zB),T.iC,T.kZ,(by show 2<1000;decide),?_⟩
 refine⟨_,rfl,l2,ys,rfl,.inl (bR.of (by rw [zI n2,zI (zJ h2 f1),zI n2];exact h2)),fun q2 hq2=>?_⟩
 obtain⟨e2,g2⟩:=lK hq2
 obtain⟨e3,g3⟩:=lK g2
 obtain⟨e4,f2⟩:=lK g3
 refine⟨_,rfl,p,_,dx,_,rfl,(by rw [zI (Ne.symm e2)];exact zB),T.iC,T.vm,(by show 3<1000;decide),?_⟩
 refine q q1 q2 _ (Ne.symm e3) f1 f2 (fun b o hb hn=>?_) zB ?_ ?_
 · have nb:b≠p:=fun e=>hn (by rw [e];exact List.mem_singleton.mpr rfl)
   rw [zI nb,zI (zJ hb f2),zI nb,zI (zJ hb f1),zI nb];exact hb
 · rw [zI e1,zI (Ne.symm e3),zI e1];exact zB
 · rw [zI e2];exact zB
theorem Jk (T:Txt K mg A):aG P w K mg base bQ 1 A.jT A.jU ["self","name","sheets","totals"] (Xu A K):=by
 refine T.Az.ok yx (fun vs H Q E h=>?_) (fun cdv A0 outer s H vs Q E hr h=>?_)
 · obtain⟨p,dx,u1,l1,l2,xs,rfl,_⟩:=h
   rfl
 obtain⟨p,dx,u1,l1,l2,xs,rfl,hp,h1,h2,q⟩:=h
 refine⟨_,(zC (yI (pv 0) (pv 1) rfl)
     (zC (yI (pv 0) (xQ xV (by rfl) T.qZ Bt.list (zA (pv 2) zD)) rfl)
     (zE (yI (pv 0) (Fy (vB (xR (x:="total") (M:=["self","name","sheets","totals"]) rfl (by rfl)) (by rfl) (by symm)) rfl (yT (pv 3)) (fun _ _ _ _=>Fx) (fun _ _ _ _=>Af (by exact (yA (zA (pv 0) (zA (xQ xV (by rfl) T.qZ Bt.list (zA (pv 1) zD)) zD)))) (by dsimp only [fL] <;> rfl))) rfl)))),?_⟩
 have n1:l1≠p:=yN h1 hp (by intro z;cases z)
 have n2:l2≠p:=yN h2 hp (by intro z;cases z)
 refine⟨_,rfl,_,rfl,p,_,dx,_,rfl,hp,T.ju,T.Jb,by decide,?_⟩
 refine⟨_,rfl,l1,xs,rfl,.inl (bR.of (by rw [zI n1];exact h1)),fun q1 hq1=>?_⟩
 obtain⟨e1,f1⟩:=lK hq1
 refine⟨_,rfl,p,_,dx,_,rfl,(by rw [zI (Ne.symm e1)];exact zB),T.ju,T.eE,(by show 1<1000;decide),?_⟩
 generalize hG:upd (upd (upd H p (.ins A.iK dx (qx ‹"name"› u1 []))) q1 (.lst xs)) p (.ins A.iK dx (qx ‹"sheets"› (V.ref q1) (qx ‹"name"› u1 [])))=H1
 have F1:Fr [p] H H1:=by rw [← hG];exact (((Fr.of (aA.refl _)).upd (List.mem_singleton.mpr rfl) _).new hq1 _).upd (List.mem_singleton.mpr rfl) _
 have hp1:H1 p=some (.ins A.iK dx [("name",u1),("sheets",.ref q1)]):=by rw [← hG];exact zB
 have atU:H1 q1=some (.lst xs):=by rw [← hG,zI e1];exact zB
 have hl2:H1 l2=some (.lst []):=F1 _ _ h2 (rB n2)
 refine⟨_,rfl,l2,rfl,⟨_,bR.of hl2⟩,?_⟩
 refine vC (xs:=[]) (Nat.zero_le _) (fun i zs H'=>H1=H'∧zs=[]) ⟨rfl,rfl⟩ (fun i zs H' hw=>by obtain⟨rfl,_⟩:=hw;exact bR.of hl2) (fun i x zs H' hx hlen hw=>by simp at hx) (fun zs H' hw p2 hp2=>?_)
 obtain⟨rfl,rfl⟩:=hw
 have s2:=zG hp2 (.lst [])
 have np2:p2≠p:=fun e=>by rw [e,hp1] at hp2;cases hp2
 refine⟨_,rfl,p,_,dx,_,rfl,s2 _ _ hp1,T.ju,T.rH,(by show 2<1000;decide),?_⟩
 have F2:Fr [p] H1 (upd (upd H1 p2 (.lst [])) p (oPa A dx u1 q1 p2)):=(Fr.of s2).upd (List.mem_singleton.mpr rfl) _
 refine q q1 p2 _ (F1.trans F2) zB (F2 _ _ atU (rB e1)) ?_
 show (upd (upd H1 p2 (.lst [])) p (oPa A dx u1 q1 p2)) p2=_
 rw [zI np2];exact zB
theorem CV (T:Txt K mg A):aG P w K mg base bQ 3 A.jG A.jH ["self"] (acI A):=by
 have cY:=mW (P:=P) (w:=w) (base:=base) T
 refine T.Al.ok yp (fun vs H Q E h=>?_) (fun cdv A0 outer s H vs Q E hr h=>?_)
 · obtain⟨p,dx,rfl,_⟩:=h
   rfl
 obtain⟨p,dx,rfl,hp,q⟩:=h
 refine⟨_,(zE (yG (rZ T.q9 cY ‹hr› rfl T.Rk T.fP zQ (zA (pv 0) (zA zF (zA zF zD)))))),?_⟩
 exact⟨_,rfl,p,_,dx,_,_,rfl,hp,T.qj,T.xZ,T.vd,q⟩
theorem Hv (T:Txt K mg A):aG P w K mg base bQ 1 A.pM A.kJ ["self","name","word","place"] (agv A):=by
 refine T.Im.ok Hr (fun vs H Q E h=>?_) (fun cdv A0 outer s H vs Q E hr h=>?_)
 · obtain⟨p,dx,u1,u2,u3,rfl,_⟩:=h
   rfl
 obtain⟨p,dx,u1,u2,u3,rfl,hp,q⟩:=h
 refine⟨_,(zC (yI (pv 0) (pv 1) rfl)
     (zC (yI (pv 0) (pv 2) rfl)
     (zE (yI (pv 0) (pv 3) rfl)))),?_⟩
 refine⟨_,rfl,_,rfl,p,_,dx,_,rfl,hp,T.jD,T.j9,by decide,?_⟩
 refine⟨_,rfl,_,rfl,p,_,dx,_,rfl,zB,T.jD,T.oA,(by show 1<1000;decide),?_⟩
 refine⟨_,rfl,_,rfl,p,_,dx,_,rfl,zB,T.jD,T.tG,(by show 2<1000;decide),?_⟩
 rw [yH,yH]
 exact q
theorem Hw (T:Txt K mg A):aG P w K mg base bQ 1 A.iW A.iY ["self","name","how","number"] (agx A):=by
 refine T.v5.ok uU (fun vs H Q E h=>?_) (fun cdv A0 outer s H vs Q E hr h=>?_)
 · obtain⟨p,dx,u1,u2,u3,rfl,_⟩:=h
   rfl
 obtain⟨p,dx,u1,u2,u3,rfl,hp,q⟩:=h
 refine⟨_,(zC (yI (pv 0) (pv 1) rfl)
     (zC (yI (pv 0) (pv 2) rfl)
     (zE (yI (pv 0) (pv 3) rfl)))),?_⟩
 refine⟨_,rfl,_,rfl,p,_,dx,_,rfl,hp,T.aD,T.cX,by decide,?_⟩
 refine⟨_,rfl,_,rfl,p,_,dx,_,rfl,zB,T.aD,T.dY,(by show 1<1000;decide),?_⟩
 refine⟨_,rfl,_,rfl,p,_,dx,_,rfl,zB,T.aD,T.cj,(by show 2<1000;decide),?_⟩
 rw [yH,yH]
 exact q
theorem Hx (T:Txt K mg A):aG P w K mg base bQ 1 A.nW A.nY ["self","test"] (agw A):=by
 refine T.Gw.ok Ef (fun vs H Q E h=>?_) (fun cdv A0 outer s H vs Q E hr h=>?_)
 · obtain⟨p,dx,u1,rfl,_⟩:=h
   rfl
 obtain⟨p,dx,u1,rfl,hp,q⟩:=h
 refine⟨_,(zE (yI (pv 0) (pv 1) rfl)),?_⟩
 exact⟨_,rfl,_,rfl,p,_,dx,_,rfl,hp,T.tH,T.ph,by decide,q⟩
theorem Xw (T:Txt K mg A):aG P w K mg base bQ 1 A.m9 A.nq ["self","thing"] acJ:=by
 refine T.Gb.ok DX (fun vs H Q E h=>?_) (fun cdv A0 outer s H vs Q E hr h=>?_)
 · obtain⟨p,o,rfl,_⟩:=h
   rfl
 obtain⟨p,o,rfl,q⟩:=h
 cases o with
 | some b=>exact⟨_,(zE (zK (zW yS (by rfl) T.aH Bt.isinstance (zA (pv 1) (zA (yZ (v:=.ty "bool") rfl T.Bq Bt.bool rfl) zD))))),_,rfl,_,_,_,_,rfl,rfl,.old (.bl _),T.o7,q⟩
 | none=>exact⟨_,(zE (zK (zW yS (by rfl) T.aH Bt.isinstance (zA (pv 1) (zA (yZ (v:=.ty "bool") rfl T.Bq Bt.bool rfl) zD))))),_,rfl,_,_,_,_,rfl,rfl,.old .non,T.DG,q⟩
theorem aao (T:Txt K mg A):aG P w K mg base bQ 1 A.gU A.gW ["self","text"] acK:=by
 refine T.uF.ok tK (fun vs H Q E h=>?_) (fun cdv A0 outer s H vs Q E hr h=>?_)
 · obtain⟨p,z,rfl,_⟩:=h
   rfl
 obtain⟨p,z,rfl,q⟩:=h
 exact⟨_,(zE (zK (ZR rfl T.Bo T.Bp (pv 1) ⟨rfl,rfl,rfl,rfl⟩))),_,rfl,z,rfl,q⟩
theorem Xx (T:Txt K mg A):aG P w K mg base bQ 1 A.nu A.nA ["self","answer"] aal:=by
 refine T.Ge.ok DY (fun vs H Q E h=>?_) (fun cdv A0 outer s H vs Q E hr h=>?_)
 · obtain⟨p,b,rfl,_⟩:=h
   rfl
 obtain⟨p,b,rfl,q⟩:=h
 refine⟨_,(zE (zK (lB (yO (pv 1)) zF zF))),?_⟩
 cases b with
 | true=>exact⟨_,rfl,_,rfl,bA q⟩
 | false=>exact⟨_,rfl,_,rfl,aF q⟩
theorem Jl (T:Txt K mg A):aG P w K mg base bQ 3 A.jM A.jN ["self","most"] (Xv A):=by
 have cY:=mW (P:=P) (w:=w) (base:=base) T
 refine T.Aq.ok yt (fun vs H Q E h=>?_) (fun cdv A0 outer s H vs Q E hr h=>?_)
 · obtain⟨p,dx,u,rfl,_⟩:=h
   rfl
 obtain⟨p,dx,u,rfl,hp,q⟩:=h
 refine⟨_,(zE (yG (rZ T.q9 cY ‹hr› rfl T.Rk T.fP zQ (zA (pv 0) (zA zF (zA (pv 1) zD)))))),?_⟩
 exact⟨_,rfl,_,rfl,p,_,dx,_,_,rfl,hp,T.Hh,T.ye,T.vh,q⟩
theorem Lx (T:Txt K mg A):aG P w K mg base bQ 3 A.lO A.lQ ["self","words"] (aam A):=by
 have cY:=mW (P:=P) (w:=w) (base:=base) T
 refine T.Dl.ok By (fun vs H Q E h=>?_) (fun cdv A0 outer s H vs Q E hr h=>?_)
 · obtain⟨p,dx,l,ws,rfl,_⟩:=h
   rfl
 obtain⟨p,dx,l,ws,rfl,hp,hl,hz,q⟩:=h
 have nl:l≠p:=yN hl hp (by intro z;cases z)
 have lw:(ws.map V.str).length=ws.length:=List.length_map ..
 refine⟨_,(zC (yG (rZ T.q9 cY ‹hr› rfl T.Rk T.fP zQ (zA (pv 0) (zA zF (zA (zY rY (zW yB (by rfl) T.jC PySem.boot_len (zA (pv 1) zD)) zF) zD)))))
     (zE (yI (pv 0) (xQ xV (by rfl) T.qZ Bt.list (zA (pv 1) zD)) rfl))),?_⟩
 refine⟨_,rfl,_,rfl,l,_,rfl,.inl (bR.of hl),_,_,rfl,rfl,p,_,dx,_,_,rfl,hp,T.kW,T.Cz,T.yg,?_⟩
 rw [lw]
 refine⟨_,rfl,l,_,rfl,.inl (bR.of (by rw [zI nl];exact hl)),fun q1 hq1=>?_⟩
 obtain⟨e1,f1⟩:=lK hq1
 refine⟨_,rfl,p,_,dx,_,rfl,(by rw [zI (Ne.symm e1)];exact zB),T.kW,T.kY,(by show 2<1000;decide),?_⟩
 refine q q1 _ (((Fr.of (aA.refl _)).upd (List.mem_singleton.mpr rfl) _).new hq1 _ |>.upd (List.mem_singleton.mpr rfl) _) zB (by rw [zI e1];exact zB)
theorem Xy (T:Txt K mg A):aG P w K mg base bQ 1 A.pI A.pJ ["self","thing"] (acM A):=by
 refine T.Ii.ok Ho (fun vs H Q E h=>?_) (fun cdv A0 outer s H vs Q E hr h=>?_)
 · obtain⟨k,dk,qa,ws,hi,j,z,rfl,_⟩:=h
   rfl
 obtain⟨k,dk,qa,ws,hi,j,z,rfl,hk,hq,hd,hz,q⟩:=h
 refine⟨_,(zE (zK (Ey (zW yS (by rfl) T.aH Bt.isinstance (zA (pv 1) (zA (yZ (v:=.ty "str") rfl T.W9 Bt.str rfl) zD))) (Ka (xF JC (pv 1) (zO (pv 0) rfl) (by rfl)))))),?_⟩
 refine⟨_,rfl,_,_,_,_,rfl,rfl,.old (.str _),T.Br,_,rfl,bA ?_⟩
 refine⟨_,rfl,_,rfl,k,_,dk,_,_,rfl,hk,T.kW,T.kY,rfl,qa,_,rfl,.inl (bR.of hq),rfl,JZ _,?_⟩
 rw [Oz,decide_eq_true (List.mem_of_getElem? hz)]
 exact q
theorem aap (T:Txt K mg A):aG P w K mg base bQ 1 A.iR A.iT ["self","text"] (fun vs H Q _=>∃ (p v:V),vs=[p,v]∧Q v H):=by
 refine T.vR.ok uR (fun vs H Q E h=>?_) (fun cdv A0 outer s H vs Q E hr h=>?_)
 · obtain⟨p,b,rfl,_⟩:=h
   rfl
 obtain⟨p,v,rfl,q⟩:=h
 exact⟨_,(zE (zK (pv 1))),_,rfl,q⟩
theorem Xz (T:Txt K mg A):aG P w K mg base bQ 1 A.pK A.pL ["self","answer"] (aan A):=by
 refine T.Ik.ok Hq (fun vs H Q E h=>?_) (fun cdv A0 outer s H vs Q E hr h=>?_)
 · obtain⟨k,dk,qa,ws,hi,j,z,rfl,_⟩:=h
   rfl
 obtain⟨k,dk,qa,ws,hi,j,z,rfl,hk,hq,hd,hz,q⟩:=h
 refine⟨_,(zE (zK (mC PySem.F.plainAttrs_list PySem.F.slot_list_index PySem.F.type_list_index JP (zO (pv 0) rfl) (zA (pv 1) zD)))),?_⟩
 exact⟨_,rfl,k,_,dk,_,_,rfl,hk,T.kW,T.kY,rfl,.inl ⟨rfl,_,bR.of hq⟩,_,rfl,qa,_,_,j,rfl,rfl,bR.of hq,JZ _,rfl,acL hd hz,q⟩
def JFP (T:Txt K mg A):dI P w K mg base bQ 4 A.cT "fits":=⟨_,_,_,_,[],[],T.kW,T.Lk,(Xy T).mono (by decide),T.Ij,.nil⟩
def atV (T:Txt K mg A):dI P w K mg base bQ 4 A.cT "answer_of":=⟨_,_,_,_,[],[],T.kW,T.yf,(aap T).mono (by decide),T.vU,.nil⟩
def JKP (T:Txt K mg A):dI P w K mg base bQ 4 A.cT "rank":=⟨_,_,_,_,[],[],T.kW,T.Ln,(Xz T).mono (by decide),T.Il,.nil⟩
def JF (T:Txt K mg A):dI P w K mg base bQ 4 A.bB "fits":=⟨_,_,_,_,[],[],T.qj,T.IV,(Xw T).mono (by decide),T.Gd,.nil⟩
def JAn (T:Txt K mg A):dI P w K mg base bQ 4 A.bB "answer_of":=⟨_,_,_,_,[],[],T.qj,T.wB,(aao T).mono (by decide),T.uG,.nil⟩
def JK (T:Txt K mg A):dI P w K mg base bQ 4 A.bB "rank":=⟨_,_,_,_,[],[],T.qj,T.IW,(Xx T).mono (by decide),T.Gf,.nil⟩
end
abbrev Nm:=Nat→Str
inductive Kn where
 | yn | pk (ws:List Str) | nm (hi:Int) | mo (lo hi:Int) | wh (lo hi:Int)
def Kn.lo:Kn→Int
 | .mo lo _=>lo
 | .wh lo _=>lo
 | _=>0
def Kn.hi:Kn→Int
 | .yn=>1
 | .pk ws=>ws.length - 1
 | .nm hi=>hi
 | .mo _ hi=>hi
 | .wh _ hi=>hi
inductive At where
 | is (w:Str) (p:Int) | cmp (h:Str) (m:Int)
abbrev Sy:=At × Bool
abbrev Sg:=Option Sy
structure Rw where
 nm:Str
 kd:Kn
 wn:Sg
abbrev qm:=Str × List Rw
def Pl:HO→Prop
 | .iI _=>False
 | .own _=>False
 | .ud _ _=>False
 | .ins _ _ []=>False
 | _=>True
def Kq (H H':Hp):Prop:=∀ b o,H b=some o→Pl o→H' b=some o
theorem Kq.of {H H':Hp} (s:aA H H'):Kq H H':=fun b o h _=>s b o h
theorem Kq.trans {H H1 H2:Hp} (a:Kq H H1) (b:Kq H1 H2):Kq H H2:=fun x o h p=>b x o (a x o h p) p
def pl (f:Bool) (i:Int):V:=if f=true then .int i else .non
abbrev oIs (A:cM) (dx:Addr) (n w:Str) (p:V):HO:=.ins A.qe dx [("name",.str n),("word",.str w),("place",p)]
abbrev oCo (A:cM) (dx:Addr) (n h:Str) (m:Int):HO:=.ins A.cJ dx [("name",.str n),("how",.str h),("number",.int m)]
abbrev oNo (A:cM) (dx:Addr) (b:Addr):HO:=.ins A.rG dx [("test",.ref b)]
abbrev oPk (A:cM) (dk:Addr) (hi:Int) (q:Addr):HO:=.ins A.cT dk [("low",.int 0),("high",.int hi),("words",.ref q)]
def oKn (A:cM) (dk q:Addr):Kn→HO
 | .yn=>.ins A.bB dk [("low",.int 0),("high",.int 1)]
 | .pk ws=>oPk A dk (ws.length - 1) q
 | .nm hi=>.ins A.di dk [("low",.int 0),("high",.int hi)]
 | .mo lo hi=>.ins A.iJ dk [("low",.int lo),("high",.int hi)]
 | .wh lo hi=>.ins A.dJ dk [("low",.int lo),("high",.int hi)]
def PN (A:cM) (H:Hp) (k:Addr) (x:Kn):Prop:=∃ dk q,H k=some (oKn A dk q x)∧∀ ws,x=.pk ws→ws≠[]∧H q=some (.lst (ws.map V.str))
theorem acN {A:cM}{dk q:Addr}{x:Kn}:Pl (oKn A dk q x):=by cases x <;> trivial
theorem PN.kq {A:cM}{H H':Hp} (f:Kq H H') {k:Addr}{x:Kn} (h:PN A H k x):PN A H' k x:=by
 obtain⟨dk,q,h1,h2⟩:=h
 exact⟨dk,q,f _ _ h1 acN,fun ws e=>⟨(h2 ws e).1,f _ _ (h2 ws e).2 trivial⟩⟩
def wdB (b:Bool):Str:=if b=true then ‹"yes"› else ‹"no"›
def At.i:At→Nat
 | .is _ _=>0
 | .cmp _ _=>0
def At.c:At→Nat
 | .is _ _=>1
 | .cmp _ _=>0
def Ly (x:Kn):At→Prop
 | .is w p=>match x with
   | .yn=>∃ b,w=wdB b∧p=rkB b
   | .pk ws=>ws.Nodup∧∃ j:Nat,ws[j]? = some w∧p=j
   | _=>False
 | .cmp _ _=>match x with
   | .yn=>False
   | .pk _=>False
   | _=>True
def atO (A:cM) (N:Nm) (f:Bool) (dx:Addr):At→HO
 | .is w p=>oIs A dx (N 0) w (pl f p)
 | .cmp h m=>oCo A dx (N 0) h m
def HY (A:cM) (N:Nm) (H:Hp) (f:Bool) (a:Addr) (t:At):Prop:=∃ dx,H a=some (atO A N f dx t)
def Rt (A:cM) (N:Nm) (H:Hp) (f:Bool) (x:V) (s:Sy):Prop:=∃ a,x=.ref a∧((s.2=false∧HY A N H f a s.1)∨(s.2=true∧∃ dx b,H a=some (oNo A dx b)∧HY A N H f b s.1))
def SgR (A:cM) (N:Nm) (H:Hp) (x:V):Sg→Prop
 | none=>x=.non
 | some s=>Rt A N H false x s
theorem acO {A:cM}{N:Nm}{f:Bool}{dx:Addr}{t:At}:Pl (atO A N f dx t):=by cases t <;> trivial
theorem HY.kq {A:cM}{N:Nm}{H H':Hp} (k:Kq H H') {f:Bool}{a:Addr}{t:At} (h:HY A N H f a t):HY A N H' f a t:=by
 obtain⟨dx,h⟩:=h
 exact⟨dx,k _ _ h acO⟩
theorem Rt.kq {A:cM}{N:Nm}{H H':Hp} (k:Kq H H') {f:Bool}{x:V}{s:Sy} (h:Rt A N H f x s):Rt A N H' f x s:=by
 obtain⟨a,e,h⟩:=h
 rcases h with ⟨c,h⟩ | ⟨c,dx,b,h,h'⟩
 · exact⟨a,e,.inl ⟨c,h.kq k⟩⟩
 · exact⟨a,e,.inr ⟨c,dx,b,k _ _ h trivial,h'.kq k⟩⟩
theorem SgR.kq {A:cM}{N:Nm}{H H':Hp} (k:Kq H H') {x:V}{s:Sg} (h:SgR A N H x s):SgR A N H' x s:=by
 cases s with
 | none=>exact h
 | some s=>exact Rt.kq k h
def RwR (A:cM) (N:Nm) (H:Hp) (x:V) (r:Rw):Prop:=∃ a dx k v,x=.ref a∧H a=some (Ji A dx (.str r.nm) (.ref k) v)∧PN A H k r.kd∧SgR A N H v r.wn
def ShR (A:cM) (N:Nm) (H:Hp) (x:V) (s:qm):Prop:=∃ a dx q1 q2 xs,x=.ref a∧H a=some (oSh A dx (.str s.1) .non q1 q2)∧H q1=some (.lst xs)∧H q2=some (.lst [])∧Paired (RwR A N H) xs s.2
def PQ (A:cM) (N:Nm) (H:Hp) (a:Addr) (S:List qm):Prop:=∃ dx u q1 q2 xs,H a=some (oPa A dx u q1 q2)∧H q1=some (.lst xs)∧H q2=some (.lst [])∧Paired (ShR A N H) xs S
theorem RwR.kq {A:cM}{N:Nm}{H H':Hp} (f:Kq H H') {x:V}{r:Rw} (h:RwR A N H x r):RwR A N H' x r:=by
 obtain⟨a,dx,k,v,e,h1,h2,h3⟩:=h
 exact⟨a,dx,k,v,e,f _ _ h1 trivial,h2.kq f,h3.kq f⟩
theorem ShR.kq {A:cM}{N:Nm}{H H':Hp} (f:Kq H H') {x:V}{s:qm} (h:ShR A N H x s):ShR A N H' x s:=by
 obtain⟨a,dx,q1,q2,xs,e,h1,h2,h3,h4⟩:=h
 exact⟨a,dx,q1,q2,xs,e,f _ _ h1 trivial,f _ _ h2 trivial,f _ _ h3 trivial,zH h4 fun _ _=>RwR.kq f⟩
theorem PQ.kq {A:cM}{N:Nm}{H H':Hp} (f:Kq H H') {a:Addr}{S:List qm} (h:PQ A N H a S):PQ A N H' a S:=by
 obtain⟨dx,u,q1,q2,xs,h1,h2,h3,h4⟩:=h
 exact⟨dx,u,q1,q2,xs,f _ _ h1 trivial,f _ _ h2 trivial,f _ _ h3 trivial,zH h4 fun _ _=>ShR.kq f⟩
def iH (S:List qm) (r:Rw):Prop:=∃ s∈S,r∈s.2
structure GS (N:Nm) (S:List qm):Prop where
 len:S.length≤5
 rows:∀ s∈S,s.2.length≤4
 una:∀ r r',iH S r→iH S r'→r.nm=r'.nm→r=r'
 q0:∃ r,iH S r∧r.nm=N 0∧∀ r' y,iH S r'→r'.wn=some y→Ly r.kd y.1
def Vk (A:cM) (H:Hp) (kvs:List (Key × V)) (S:List qm):Prop:=∀ r,iH S r→∃ k,eF kvs (.inr r.nm)=some (.ref k)∧PN A H k r.kd
def EdR (kvs:List (Key × V)) (S:List qm):Prop:=∀ r,iH S r→eF kvs (.inr r.nm)=some .non
theorem Vk.kq {A:cM}{H H':Hp} (f:Kq H H') {kvs:List (Key × V)}{S:List qm} (h:Vk A H kvs S):Vk A H' kvs S:=fun z hz=>by
 obtain⟨k,h1,h2⟩:=h z hz
 exact⟨k,h1,h2.kq f⟩
def aar (A:cM):Sp:=fun vs H Q _=>∃ N a S,vs=[.ref a]∧PQ A N H a S∧GS N S∧∀ d kvs H',H d=none→aA H H'→H' d=some (.dK kvs)→Vk A H kvs S→Q (.ref d) H'
def XC (A:cM):Sp:=fun vs H Q _=>∃ N a S,vs=[.ref a]∧PQ A N H a S∧GS N S∧∀ d kvs H',H d=none→aA H H'→H' d=some (.dK kvs)→EdR kvs S→Q (.ref d) H'
def tV (R:Rw→Prop) (S:List qm) (i:Nat) (rs:List Rw) (j:Nat):Prop:=(∀ (i':Nat) (s:qm),i'<i→S[i']? = some s→∀ r∈s.2,R r)∧∀ j' r,j'<j→rs[j']? = some r→R r
theorem tV.zero {R:Rw→Prop}{S:List qm}{rs:List Rw}:tV R S 0 rs 0:=⟨fun _ _ h=>absurd h (Nat.not_lt_zero _),fun _ _ h=>absurd h (Nat.not_lt_zero _)⟩
theorem tV.next {R:Rw→Prop}{S:List qm}{i:Nat}{s:qm}{rs':List Rw} (hs:S[i]? = some s) (h:tV R S i s.2 s.2.length):tV R S (i+1) rs' 0:=⟨fun i' s' hi e r hr=>by
 by_cases z:i'=i
 · subst z;rw [hs] at e;cases e
   obtain⟨j,hj⟩:=List.mem_iff_getElem?.mp hr
   exact h.2 j r (List.getElem?_eq_some_iff.mp hj).1 hj
 · exact h.1 i' s' (by omega) e r hr,fun _ _ h=>absurd h (Nat.not_lt_zero _)⟩
theorem tV.first {R:Rw→Prop}{S:List qm}{i:Nat}{rs rs':List Rw} (h:tV R S i rs 0):tV R S i rs' 0:=⟨h.1,fun _ _ h=>absurd h (Nat.not_lt_zero _)⟩
theorem tV.ask {R R':Rw→Prop}{S:List qm}{i j:Nat}{s:qm}{r:Rw} (hs:S[i]? = some s) (hr:s.2[j]? = some r) (h:tV R S i s.2 j) (k:∀ z,iH S z→R z→R' z) (kr:R' r):tV R' S i s.2 (j+1):=⟨fun i' s hi e r hr=>k _ ⟨s,List.mem_of_getElem? e,hr⟩ (h.1 i' s hi e r hr),fun j' r' hj e=>by
 by_cases z:j'=j
 · subst z;rw [hr] at e;cases e;exact kr
 · exact k _ ⟨s,List.mem_of_getElem? hs,List.mem_of_getElem? e⟩ (h.2 j' r' (by omega) e)⟩
theorem tV.all {R:Rw→Prop}{S:List qm}{rs:List Rw} (h:tV R S S.length rs 0):∀ z,iH S z→R z:=fun z hz=>by
 obtain⟨s,hs,hr⟩:=hz
 obtain⟨i,hi⟩:=List.mem_iff_getElem?.mp hs
 exact h.1 i s (List.getElem?_eq_some_iff.mp hi).1 hi z hr
section
variable {P:Program}{w:World}{K:W.Frag}{mg:Str→Option Value}{base:Heap}{A:cM}
theorem tW (T:Txt K mg A):aG P w K mg base bQ 1 A.qC A.vD ["paper"] (aar A):=by
 refine T.Qz.ok pq (fun vs H Q E h=>?_) (fun cdv A0 outer s H vs Q E hr h=>?_)
 · obtain⟨N,a,S,rfl,_⟩:=h
   rfl
 obtain⟨N,a,S,rfl,hP,hG,q⟩:=h
 refine⟨_,(zC (zT (i:=1) pq.nd rfl ‹0› p7)
     (zC (xK PassesOwn.never rfl (yT (zO (pv 0) rfl)) (yP (i:=2) pq.nd rfl ‹0›) (zE (xK PassesOwn.never rfl (yT (zO (pv 2) rfl)) (yP (i:=3) pq.nd rfl ‹0›) (zE (zZ (yO (zW yS (by rfl) T.aH Bt.isinstance (zA (pv 3) (zA (wY rfl T.Xa) zD)))) (zE (ug (xG hr) (pv 1) (zO (pv 3) rfl) (zO (pv 3) rfl) rfl)) zP)))))
     (zE (zK (pv 1))))),?_⟩
 intro d hd
 obtain⟨dx,u,q1,q2,xs,p1,p2,p3,p4⟩:=hP
 have s0:=zG hd (.dK [])
 refine⟨_,rfl,a,_,dx,_,_,rfl,s0 _ _ p1,T.ju,T.eE,(by rw [lk2 (by symm)]),q1,rfl,⟨xs,bR.of (s0 _ _ p2)⟩,?_⟩
 have lens:=zV p4
 have hlen:=hG.len
 refine yV (xs:=xs) (fun i σ H'=>∃ kvs u v,σ=[some (.ref a),some (.ref d),u,v]∧Fr [d] (upd H d (.dK [])) H'∧H' d=some (.dK kvs)∧kvs.length≤4*i∧tV (fun z=>∃ k,eF kvs (.inr z.nm)=some (.ref k)∧PN A H k z.kd) S i [] 0) ⟨[],_,_,rfl,Fr.of (aA.refl _),zB,Nat.zero_le _,.zero⟩ (fun i σ H' hi hw=>?_) (fun i x σ H' hx hw=>?_) (fun σ H' hw=>?_)
 · obtain⟨kvs,u,v,rfl,F,_⟩:=hw
   exact bR.of (F _ _ (s0 _ _ p2) (rB (zJ p2 hd)))
 · obtain⟨kvs,u,v,rfl,F,hd',hl,hK⟩:=hw
   obtain⟨sh,hsh,hS⟩:=yF p4 hx
   obtain⟨sa,YZ,r1,r2,rs,rfl,a1,a2,a3,a4⟩:=hS
   have nn:∀ {b:Addr}{o:HO},H b=some o→H' b=some o:=fun {b o} hb=>F _ _ (s0 _ _ hb) (rB (zJ hb hd))
   have hr4:=hG.rows sh (List.mem_of_getElem? hsh)
   have hi5:i<5:=by have:=(List.getElem?_eq_some_iff.mp hsh).1;omega
   have lr:=zV a4
   refine⟨_,rfl,sa,_,YZ,_,_,rfl,nn a1,T.iC,T.kZ,rfl,r1,rfl,⟨rs,bR.of (nn a2)⟩,?_⟩
   refine yV (xs:=rs) (fun j σ H'=>∃ kvs v,σ=[some (.ref a),some (.ref d),some (.ref sa),v]∧Fr [d] (upd H d (.dK [])) H'∧H' d=some (.dK kvs)∧kvs.length≤4*i+j∧tV (fun z=>∃ k,eF kvs (.inr z.nm)=some (.ref k)∧PN A H k z.kd) S i sh.2 j) ⟨kvs,_,rfl,F,hd',hl,hK.first⟩ (fun j σ H2 hj hw=>?_) (fun j x σ H2 hx2 hw=>?_) (fun σ H2 hw=>?_)
   · obtain⟨kvs,v,rfl,F,_⟩:=hw
     exact bR.of (F _ _ (s0 _ _ a2) (rB (zJ a2 hd)))
   · obtain⟨kvs,v,rfl,F,hd',hl,hK⟩:=hw
     obtain⟨r,hr,hR⟩:=yF a4 hx2
     have hj4:j<4:=by have:=(List.getElem?_eq_some_iff.mp hr).1;omega
     have nn:∀ {b:Addr}{o:HO},H b=some o→H2 b=some o:=fun {b o} hb=>F _ _ (s0 _ _ hb) (rB (zJ hb hd))
     obtain⟨ra,Y0,k,v',rfl,b1,b2,b3⟩:=hR
     have hrS:iH S r:=⟨sh,List.mem_of_getElem? hsh,List.mem_of_getElem? hr⟩
     · refine⟨_,rfl,_,_,_,_,rfl,rfl,.old (T.Rm H2 ra Y0 _ (nn b1)),T.wA,_,rfl,bA ?_⟩
       refine⟨_,rfl,ra,_,Y0,_,_,rfl,nn b1,T.tE,T.CG,rfl,_,rfl,_,rfl,ra,_,Y0,_,_,rfl,nn b1,T.tE,T.o9,rfl,d,_,rfl,Dh.k (k:=.inr r.nm) hd' (yK (m:=1000) (by omega)),?_⟩
       have hp:=lE kvs (.inr r.nm) (.ref k)
       refine⟨_,_,rfl,F.upd (List.mem_singleton.mpr rfl) _,zB,by omega,hK.ask hsh hr (fun z hzS hz=>?_) ?_⟩
       · rw [lD]
         by_cases e:(Sum.inr z.nm:Key)=.inr r.nm
         · rw [if_pos e]
           have:=hG.una z r hzS hrS (Sum.inr.inj e)
           subst this
           exact⟨k,rfl,b2⟩
         · rw [if_neg e];exact hz
       · rw [lD,if_pos rfl];exact⟨k,rfl,b2⟩
   · obtain⟨kvs,v,rfl,F,hd',hl,hK⟩:=hw
     rw [lr] at hl hK
     exact⟨kvs,_,_,rfl,F,hd',by omega,hK.next hsh⟩
 · obtain⟨kvs,u,v,rfl,F,hd',hl,hK⟩:=hw
   rw [lens] at hK
   exact⟨_,rfl,q d kvs H' hd (fun b o hb=>F _ _ (s0 _ _ hb) (rB (zJ hb hd))) hd' hK.all⟩
theorem zm (T:Txt K mg A):aG P w K mg base bQ 1 A.oU A.sy ["paper"] (XC A):=by
 refine T.NT.ok mV (fun vs H Q E h=>?_) (fun cdv A0 outer s H vs Q E hr h=>?_)
 · obtain⟨N,a,S,rfl,_⟩:=h
   rfl
 obtain⟨N,a,S,rfl,hP,hG,q⟩:=h
 refine⟨_,(zC (zT (i:=1) mV.nd rfl ‹0› p7)
     (zC (xK PassesOwn.never rfl (yT (zO (pv 0) rfl)) (yP (i:=2) mV.nd rfl ‹0›) (zE (xK PassesOwn.never rfl (yT (zO (pv 2) rfl)) (yP (i:=3) mV.nd rfl ‹0›) (zE (zZ (yO (zW yS (by rfl) T.aH Bt.isinstance (zA (pv 3) (zA (wY rfl T.Xa) zD)))) (zE (ug (xG hr) (pv 1) (zO (pv 3) rfl) (zO (pv 2) rfl) rfl)) zP)))))
     (zE (zK (pv 1))))),?_⟩
 intro d hd
 obtain⟨dx,u,q1,q2,xs,p1,p2,p3,p4⟩:=hP
 have s0:=zG hd (.dK [])
 refine⟨_,rfl,a,_,dx,_,_,rfl,s0 _ _ p1,T.ju,T.eE,(by rw [lk2 (by symm)]),q1,rfl,⟨xs,bR.of (s0 _ _ p2)⟩,?_⟩
 have lens:=zV p4
 have hlen:=hG.len
 refine yV (xs:=xs) (fun i σ H'=>∃ kvs u v,σ=[some (.ref a),some (.ref d),u,v]∧Fr [d] (upd H d (.dK [])) H'∧H' d=some (.dK kvs)∧kvs.length≤4*i∧tV (fun z=>eF kvs (.inr z.nm)=some .non) S i [] 0) ⟨[],_,_,rfl,Fr.of (aA.refl _),zB,Nat.zero_le _,.zero⟩ (fun i σ H' hi hw=>?_) (fun i x σ H' hx hw=>?_) (fun σ H' hw=>?_)
 · obtain⟨kvs,u,v,rfl,F,_⟩:=hw
   exact bR.of (F _ _ (s0 _ _ p2) (rB (zJ p2 hd)))
 · obtain⟨kvs,u,v,rfl,F,hd',hl,hK⟩:=hw
   obtain⟨sh,hsh,hS⟩:=yF p4 hx
   obtain⟨sa,YZ,r1,r2,rs,rfl,a1,a2,a3,a4⟩:=hS
   have nn:∀ {b:Addr}{o:HO},H b=some o→H' b=some o:=fun {b o} hb=>F _ _ (s0 _ _ hb) (rB (zJ hb hd))
   have hr4:=hG.rows sh (List.mem_of_getElem? hsh)
   have hi5:i<5:=by have:=(List.getElem?_eq_some_iff.mp hsh).1;omega
   have lr:=zV a4
   refine⟨_,rfl,sa,_,YZ,_,_,rfl,nn a1,T.iC,T.kZ,rfl,r1,rfl,⟨rs,bR.of (nn a2)⟩,?_⟩
   refine yV (xs:=rs) (fun j σ H'=>∃ kvs v,σ=[some (.ref a),some (.ref d),some (.ref sa),v]∧Fr [d] (upd H d (.dK [])) H'∧H' d=some (.dK kvs)∧kvs.length≤4*i+j∧tV (fun z=>eF kvs (.inr z.nm)=some .non) S i sh.2 j) ⟨kvs,_,rfl,F,hd',hl,hK.first⟩ (fun j σ H2 hj hw=>?_) (fun j x σ H2 hx2 hw=>?_) (fun σ H2 hw=>?_)
   · obtain⟨kvs,v,rfl,F,_⟩:=hw
     exact bR.of (F _ _ (s0 _ _ a2) (rB (zJ a2 hd)))
   · obtain⟨kvs,v,rfl,F,hd',hl,hK⟩:=hw
     obtain⟨r,hr,hR⟩:=yF a4 hx2
     have hj4:j<4:=by have:=(List.getElem?_eq_some_iff.mp hr).1;omega
     have nn:∀ {b:Addr}{o:HO},H b=some o→H2 b=some o:=fun {b o} hb=>F _ _ (s0 _ _ hb) (rB (zJ hb hd))
     obtain⟨ra,Y0,k,v',rfl,b1,b2,b3⟩:=hR
     have hrS:iH S r:=⟨sh,List.mem_of_getElem? hsh,List.mem_of_getElem? hr⟩
     · refine⟨_,rfl,_,_,_,_,rfl,rfl,.old (T.Rm H2 ra Y0 _ (nn b1)),T.wA,_,rfl,bA ?_⟩
       refine⟨_,rfl,sa,_,YZ,_,_,rfl,nn a1,T.iC,T.pR,rfl,_,rfl,_,rfl,ra,_,Y0,_,_,rfl,nn b1,T.tE,T.o9,rfl,d,_,rfl,Dh.k (k:=.inr r.nm) hd' (yK (m:=1000) (by omega)),?_⟩
       have hp:=lE kvs (.inr r.nm) .non
       refine⟨_,_,rfl,F.upd (List.mem_singleton.mpr rfl) _,zB,by omega,hK.ask hsh hr (fun z hzS hz=>?_) ?_⟩
       · rw [lD]
         by_cases e:(Sum.inr z.nm:Key)=.inr r.nm
         · rw [if_pos e]
         · rw [if_neg e];exact hz
       · rw [lD,if_pos rfl]
   · obtain⟨kvs,v,rfl,F,hd',hl,hK⟩:=hw
     rw [lr] at hl hK
     exact⟨kvs,_,_,rfl,F,hd',by omega,hK.next hsh⟩
 · obtain⟨kvs,u,v,rfl,F,hd',hl,hK⟩:=hw
   rw [lens] at hK
   exact⟨_,rfl,q d kvs H' hd (fun b o hb=>F _ _ (s0 _ _ hb) (rB (zJ hb hd))) hd' hK.all⟩
def agz (A:cM):Sp:=fun vs H Q _=>∃ N a S,vs=[.ref a]∧PQ A N H a S∧∀ d H',H d=none→aA H H'→H' d=some (.dK [])→Q (.ref d) H'
theorem Eg (T:Txt K mg A):aG P w K mg base bQ 1 A.jm A.nJ ["paper"] (agz A):=by
 refine T.Gk.ok Ec (fun vs H Q E h=>?_) (fun cdv A0 outer s H vs Q E hr h=>?_)
 · obtain⟨N,a,sh,rfl,_⟩:=h
   rfl
 obtain⟨N,a,sh,rfl,hP,q⟩:=h
 refine⟨_,(zE (zK (xQ (Ih rfl) (by rfl) T.Rh Bt.dict (zA (Fy (vB (xR (x:="name") (M:=["paper"]) rfl (by rfl)) (by rfl) (by symm)) rfl (yT (zO (pv 0) rfl)) (fun _ _ _ _=>Fx) (fun _ _ _ _=>(yA (zA (pv 0) (zA Wy zD))))) zD)))),?_⟩
 obtain⟨dx,u,q1,q2,xs,p1,p2,p3,p4⟩:=hP
 refine⟨_,rfl,a,_,dx,_,_,rfl,p1,T.ju,T.rH,rfl,q2,rfl,⟨[],bR.of p3⟩,?_⟩
 refine vC (xs:=[]) (Nat.zero_le _) (fun i zs H'=>H=H'∧zs=[]) ⟨rfl,rfl⟩ (fun i zs H' hw=>by obtain⟨rfl,_⟩:=hw;exact bR.of p3) (fun i x zs H' hx hlen hw=>by simp at hx) (fun zs H' hw p2' hp2=>?_)
 obtain⟨rfl,rfl⟩:=hw
 refine⟨p2',rfl,zB,fun d hd=>?_⟩
 exact q d _ (lK hd).2 ((zG hp2 _).trans (zG hd _)) zB
end
theorem mz {a b:Str}{A B:Prop} (h:a≠b) (k:B):if (decide (V.str a=V.str b))=true then A else B:=by
 rw [decide_eq_false (fun e=>h (V.str.inj e))]
 exact aF k
theorem CW {a b:Str}{A B:Prop} (h:a=b) (k:A):if (decide (V.str a=V.str b))=true then A else B:=by
 rw [decide_eq_true (by rw [h])]
 exact bA k
theorem El (i m:Int):decide (V.int i=V.int m)=decide (i=m):=by
 by_cases e:i=m
 · rw [decide_eq_true e,decide_eq_true (by rw [e])]
 · rw [decide_eq_false e,decide_eq_false (fun z=>e (V.int.inj z))]
abbrev jf:=Int × Int
abbrev Rg:=Str→jf
def rv:Option Int→V
 | none=>.non
 | some i=>.int i
def tv:Option Bool→V
 | none=>.non
 | some b=>.bl b
def qp (r:Option Int) (h:Str) (m:Int):Bool:=match r with
 | none=>false
 | some i=>if h="<" then decide (i<m) else if h=">" then decide (m<i) else decide (i=m)
def kh (p:jf) (h:Str) (m:Int):Option Bool:=if (qp (some p.1) h m && qp (some p.2) h m)=true then some true else if (qp (some p.1) h m || qp (some p.2) h m || (decide (p.1<m) && decide (m<p.2)))=true then none else some false
def At.h:At→Str
 | .is _ _=>‹"="›
 | .cmp h _=>h
def At.m:At→Int
 | .is _ p=>p
 | .cmp _ m=>m
def Jm (rg:Rg) (N:Nm) (t:At):Option Bool:=kh (rg (N t.i)) t.h t.m
def tri (rg:Rg) (N:Nm) (s:Sy):Option Bool:=if s.2=true then (Jm rg N s.1).map (!·) else Jm rg N s.1
structure GA where
 dx:Addr
 pa:Addr
 kd:Addr
 ed:Addr
 tg:Addr
 aq:Addr
 lg:Addr
 db:Addr
 bx:Addr
abbrev gF (c:GA) (ov:Bool) (ct:V):List (Str × V):=[("paper",.ref c.pa),("alone",.int 0),("kinds",.ref c.kd),("eaches",.ref c.ed),("together",.ref c.tg),("asked",.ref c.aq),("log",.ref c.lg),("doubles",.ref c.db),("over",.bl ov),("box",.ref c.bx),("cutting",ct)]
abbrev oGo (A:cM) (c:GA) (ov:Bool) (ct:V):HO:=.ins A.az c.dx (gF c ov ct)
def AqR (H:Hp) (kvs:List (Key × V)) (rg:Rg) (l:List Str):Prop:=kvs.length≤l.length∧(∀ z∈l,∃ d t,eF kvs (.inr z)=some (.ref d)∧H d=some (.dK [(.inl 0,.ref t)])∧H t=some (.tup [.int (rg z).1,.int (rg z).2]))∧∀ z,z∉l→eF kvs (.inr z)=none
theorem AqR.kq {H H':Hp} (f:Kq H H') {kvs:List (Key × V)}{rg:Rg}{l:List Str} (h:AqR H kvs rg l):AqR H' kvs rg l:=⟨h.1,fun z hz=>by
 obtain⟨d,t,h1,h2,h3⟩:=h.2.1 z hz
 exact⟨d,t,h1,f _ _ h2 trivial,f _ _ h3 trivial⟩,h.2.2⟩
structure RkS (A:cM) (H:Hp) (g:Addr) (c:GA) (ov:Bool) (ct:V) (S:List qm) (rg:Rg) (l:List Str):Prop where
 go:H g=some (oGo A c ov ct)
 tg:H c.tg=some (.dK [])
 ed:∃ kvs,H c.ed=some (.dK kvs)∧EdR kvs S
 aq:∃ kvs,H c.aq=some (.dK kvs)∧AqR H kvs rg l
theorem RkS.kq {A:cM}{H H':Hp} (f:Kq H H') {g:Addr}{c:GA}{ov:Bool}{ct:V}{S:List qm}{rg:Rg}{l:List Str} (h:RkS A H g c ov ct S rg l):RkS A H' g c ov ct S rg l:=by
 obtain⟨h1,h2,⟨k,h3,h4⟩,⟨k',h5,h6⟩⟩:=h
 exact⟨f _ _ h1 trivial,f _ _ h2 trivial,⟨k,f _ _ h3 trivial,h4⟩,⟨k',f _ _ h5 trivial,h6.kq f⟩⟩
def aas (s:Stmt):Expr:=match aj s with
 | [_,_,.Assign _ e _,_,_,_]=>e
 | _=>.Name "" ⟨0,0,0,0⟩
def agA (e:Expr):Arguments:=match e with
 | .Lambda a _ _ _=>a
 | _=>{ posonlyargs:=[],args:=[],vararg:=none,kwonlyargs:=[],kw_defaults:=[],kwarg:=none,defaults:=[] }
def agB (e:Expr):Expr:=match e with
 | .Lambda _ b _ _=>b
 | _=>.Name "" ⟨0,0,0,0⟩
def agC (e:Expr):Scope:=match e with
 | .Lambda _ _ s _=>s
 | _=>{ kind:=.function,names:=[],isGenerator:=false,isCoroutine:=false }
def lamP (e:Expr):Pos:=match e with
 | .Lambda _ _ _ p=>p
 | _=>⟨0,0,0,0⟩
def DL:jk:={ qual:=‹"ByBox.is_so"› ++ ".<locals>." ++ "<lambda>",params:=agA (aas aM),body:=agB (aas aM),scope:=agC (aas aM),x:="name",ys:=["thing","self"] }
abbrev U7:Pos:=lamP (aas aM)
theorem Ru:DL.Ok:=⟨rfl,rfl,rfl,rfl,by symm,fun _ _ _ _ _=>rfl⟩
def agD (P:Program) (w:World) (K:W.Frag) (mg:Str→Option Value) (base:Heap) (k:Nat):TE:=fun σ H Q=>mJ 2 σ H fun x H1=>∃ (a C dx:Addr) (fs:List (Str × V)) (M:dI P w K mg base bQ k C "span_of"),x=.ref a∧H1 a=some (.ins C dx fs)∧fs.lookup ‹"span_of"› = none ∧
 Jv (mJ 0) (Jv (mJ 1) Qh) σ H1 fun vs H2=>M.sp (x::(vs++M.rE)) H2 Q E0
theorem O1 {P:Program}{w:World}{K:W.Frag}{mg:Str→Option Value}{base:Heap}{p:Addr}{cs:List (Str × Addr)}{cd:Value}{A:Around}{outer:List Env}{s:Shared}{H:Hp}{E:XK} (hr:fD 4 (A.deeper (W.envX DL.qual DL.scope s.heap.objs.size p cd cs))) :
   PE (Cm bQ P w K mg base DL p cs cd A outer s H E) DL.body (agD P w K mg base 4):=by
 show PE _ (.Call (.Attribute (.Name "self" _) "span_of" _) [.Name "name" _,.Name "thing" _] [] _) _
 exact yD (CX:=bQ) (k:=4) hr zQ (pv 2) (zA (pv 0) (zA (pv 1) zD))
theorem XD {D:jk}{H:Hp}{p:Addr}{cs:List (Str × Addr)}{ws:List V} (L:Ck D H p cs ws):Kq H (dels H (cs.map (·.2))):=fun b o h p=>by
 rw [xC]
 · exact h
 · intro hb
   obtain⟨q,hq,rfl⟩:=List.mem_map.mp hb
   obtain⟨v,_,ob,f⟩:=su L.cells q hq
   rw [h] at f;cases f;exact p
theorem XF {H H':Hp} (s:aA H H') {b:Addr}{u:HO} (h:Fz H b u):Fz H' b u:=by
 obtain⟨o,h⟩:=h
 exact⟨o,s _ _ h⟩
theorem Tw {D:jk}{H H':Hp} (s:aA H H') {p:Addr}{cs:List (Str × Addr)}{ws:List V} (L:Ck D H p cs ws):Ck D H' p cs ws:=by
 obtain⟨⟨c',h1,h2⟩,h3,h4,h5⟩:=L
 exact⟨⟨c',s _ _ h1,XF s h2⟩,h3,h4,zH h5 fun _ _=>XF s⟩
theorem J0 {H:Hp}{ca:List Addr}{b:Addr}{o:HO} (h:dels H ca b=some o):H b=some o:=by
 by_cases e:b∈ca
 · rw [uo e] at h;cases h
 · rw [xC e] at h;exact h
def Hy (S:List qm) (z:Str):Prop:=∃ r,iH S r∧r.nm=z
theorem EdR.at {kvs:List (Key × V)}{S:List qm} (h:EdR kvs S) {z:Str} (hz:Hy S z):eF kvs (.inr z)=some .non:=by
 obtain⟨r,h1,rfl⟩:=hz
 exact h r h1
def O2 (A:cM) (H:Hp) (p:Addr) (S:List qm) (rg:Rg) (l:List Str):Prop:=∃ cs g c ov ct,Ck DL H p cs [.int 0,.ref g]∧RkS A H g c ov ct S rg l
def agE (A:cM):Sp:=fun vs H Q _=>∃ g c ov ct S rg l z,vs=[.ref g,.str z,.int 0]∧RkS A H g c ov ct S rg l∧Hy S z∧Q (.int 0) H
def agF (A:cM):Sp:=fun vs H Q _=>∃ g c ov ct S rg l z,vs=[.ref g,.str z,.int 0]∧RkS A H g c ov ct S rg l∧Hy S z∧z∈l∧∀ t H',aA H H'→H t=some (.tup [.int (rg z).1,.int (rg z).2])→Q (.ref t) H'
def acT:Sp:=fun vs H Q _=>∃ r h m,vs=[rv r,.str h,.int m]∧Q (.bl (qp r h m)) H
def atY (K:W.Frag):Sp:=fun vs H Q _=>∃ a lo hi h m,vs=[.ref a,.str h,.int m]∧H a=some (.tup [.int lo,.int hi])∧∀ H',aA H H'→Q (tv (kh (lo,hi) h m)) H'
def acU (A:cM) (j:Nat):Sp:=fun vs H Q _=>∃ a N t p S rg l,vs=[.ref a,.ref p]∧HY A N H true a t∧t.c=j∧O2 A H p S rg l∧Hy S (N t.i)∧N t.i∈l∧∀ H',aA H H'→Q (tv (Jm rg N t)) H'
def agG (A:cM):Sp:=fun vs H Q _=>∃ a dx b N t p S rg l,vs=[.ref a,.ref p]∧H a=some (oNo A dx b)∧HY A N H true b t∧O2 A H p S rg l∧Hy S (N t.i)∧N t.i∈l∧∀ H',aA H H'→Q (tv ((Jm rg N t).map (!·))) H'
section
variable {P:Program}{w:World}{K:W.Frag}{mg:Str→Option Value}{base:Heap}{A:cM}
theorem acV (T:Txt K mg A):aG P w K mg base bQ 1 A.gY A.gZ ["self","question","thing"] (agE A):=by
 refine T.uH.ok tL (fun vs H Q E h=>?_) (fun cdv A0 outer s H vs Q E hr h=>?_)
 · obtain⟨g,c,ov,ct,S,rg,l,z,rfl,_⟩:=h
   rfl
 obtain⟨g,c,ov,ct,S,rg,l,z,rfl,hR,hz,q⟩:=h
 refine⟨_,(zE (zK (lB (zL xS (oN (xG hr) (zO (pv 0) rfl) (pv 1) (fun _ _=>rfl)) yQ (zN _)) (zO (pv 0) rfl) (pv 2)))),?_⟩
 obtain⟨kvs,e1,e2⟩:=hR.ed
 refine⟨_,rfl,g,_,c.dx,gF c ov ct,_,rfl,hR.go,T.aC,T.rJ,rfl,_,rfl,c.ed,.non,rfl,(by rw [← e2.at hz];exact gr.k (k:=.inr z) e1),rfl,_,rfl,bA ?_⟩
 exact⟨_,rfl,g,_,c.dx,gF c ov ct,_,rfl,hR.go,T.aC,T.oh,rfl,q⟩
def JOw (T:Txt K mg A):dI P w K mg base bQ 2 A.az "own_thing":=⟨_,_,_,_,[],[],T.aC,T.wF,(acV T).mono (by decide),T.uI,.nil⟩
theorem agH (T:Txt K mg A):aG P w K mg base bQ 3 A.iU A.iV ["self","question","thing"] (agF A):=by
 refine T.vY.ok uT (fun vs H Q E h=>?_) (fun cdv A0 outer s H vs Q E hr h=>?_)
 · obtain⟨g,c,ov,ct,S,rg,l,z,rfl,_⟩:=h
   rfl
 obtain⟨g,c,ov,ct,S,rg,l,z,rfl,hR,hz,hm,q⟩:=h
 obtain⟨tX,e1⟩:∃ k:Nat,k=2:=⟨_,rfl⟩
 refine⟨_,(zE (zK (M8 (xG hr) (Fg (xG hr) (zO (pv 0) rfl) (pv 1) p7 ⟨rfl,rfl,rfl,rfl⟩) (yD (CX:=bQ) (k:=tX) ‹hr› zQ (pv 0) (zA (pv 1) (zA (pv 2) zD))) ⟨rfl,rfl,rfl,rfl⟩))),?_⟩
 subst e1
 obtain⟨kvs,a1,a2⟩:=hR.aq
 refine⟨_,rfl,g,_,c.dx,gF c ov ct,_,rfl,hR.go,T.aC,T.gG,rfl,c.aq,rfl,.inl ⟨kvs,.inl a1⟩,_,rfl,fun d hd=>?_⟩
 have s1:=zG hd (.dK [])
 have R1:=hR.kq (.of s1)
 refine⟨_,gr.k (k:=.inr z) (s1 _ _ a1),?_⟩
 obtain⟨d2,t,b2,b3,b4⟩:=a2.2.1 z hm
 rw [b2]
 refine⟨d2,rfl,.inl ⟨_,.inl (s1 _ _ b3)⟩,_,rfl,g,_,c.dx,gF c ov ct,JOw T,rfl,R1.go,rfl,_,rfl,_,rfl,?_⟩
 exact⟨g,c,ov,ct,S,rg,l,z,rfl,R1,hz,_,gr.k (k:=.inl 0) (s1 _ _ b3),q t _ s1 b4⟩
def JKn (T:Txt K mg A):dI P w K mg base bQ 3 A.az "known_of":=⟨_,_,_,_,[],[],T.aC,T.yh,agH T,T.vZ,.nil⟩
theorem aat (T:Txt K mg A):aG P w K mg base bQ 4 A.jr A.jt ["self","name","thing"] (agF A):=by
 refine T.xW.ok wI (fun vs H Q E h=>?_) (fun cdv A0 outer s H vs Q E hr h=>?_)
 · obtain⟨g,c,ov,ct,S,rg,l,z,rfl,_⟩:=h
   rfl
 obtain⟨g,c,ov,ct,S,rg,l,z,rfl,hR,hz,hm,q⟩:=h
 obtain⟨wK,e1⟩:∃ k:Nat,k=3:=⟨_,rfl⟩
 refine⟨_,(zC (zZ (zL (FT (xG hr)) (pv 1) (zO (pv 0) rfl) (by rfl)) (zE (zK (yD (CX:=bQ) (k:=wK) ‹hr› zQ (pv 0) (zA (pv 1) (zA (pv 2) zD))))) zP)
     (zC rF
     (zC rF
     (zC rF
     (zC rF
     (zE rF)))))),?_⟩
 subst e1
 refine⟨_,rfl,_,rfl,g,_,c.dx,gF c ov ct,_,rfl,hR.go,T.aC,T.jx,rfl,c.tg,_,rfl,gr.k (k:=.inr z) hR.tg,_,rfl,bA ?_⟩
 refine⟨_,rfl,g,_,c.dx,gF c ov ct,JKn T,rfl,hR.go,rfl,_,rfl,_,rfl,?_⟩
 exact⟨g,c,ov,ct,S,rg,l,z,rfl,hR,hz,hm,q⟩
def JRk (T:Txt K mg A):dI P w K mg base bQ 4 A.az "span_of":=⟨_,_,_,_,[],[],T.aC,T.Bu,aat T,T.xX,.nil⟩
theorem O3 (T:Txt K mg A):aG P w K mg base bQ 1 A.qG A.vG ["rank","how","number"] acT:=by
 refine T.QB.ok Ov (fun vs H Q E h=>?_) (fun cdv A0 outer s H vs Q E hr h=>?_)
 · obtain⟨r,h,m,rfl,_⟩:=h
   rfl
 obtain⟨r,h,m,rfl,q⟩:=h
 refine⟨_,(zC (zZ (zL xS (pv 0) yQ (zN _)) (zE (zK xP)) zP)
     (zC (zZ (zL yM (pv 1) zM (zN _)) (zE (zK (xF oM (pv 0) (pv 2) (zN _)))) zP)
     (zC (zZ (zL yM (pv 1) zM (zN _)) (zE (zK (xF SM (pv 0) (pv 2) (zN _)))) zP)
     (zE (zK (xF yM (pv 0) (pv 2) (zN _))))))),?_⟩
 cases r with
 | none=>exact⟨_,rfl,rfl,_,rfl,bA q⟩
 | some i =>
   have q':Q (.bl (if h="<" then decide (i<m) else if h=">" then decide (m<i) else decide (i=m))) H:=q
   refine⟨_,rfl,rfl,_,rfl,aF ?_⟩
   by_cases h1:h="<"
   · rw [if_pos h1] at q'
     exact⟨_,rfl,rfl,_,rfl,CW h1 ⟨_,rfl,_,rfl,_,_,rfl,rfl,q'⟩⟩
   rw [if_neg h1] at q'
   refine⟨_,rfl,rfl,_,rfl,mz h1 ?_⟩
   by_cases h2:h=">"
   · rw [if_pos h2] at q'
     exact⟨_,rfl,rfl,_,rfl,CW h2 ⟨_,rfl,_,rfl,_,_,rfl,rfl,q'⟩⟩
   rw [if_neg h2] at q'
   refine⟨_,rfl,rfl,_,rfl,mz h2 ⟨_,rfl,_,rfl,rfl,?_⟩⟩
   have e:=El i m
   rw [← e] at q'
   exact q'
theorem oE (T:Txt K mg A):aG P w K mg base bQ 2 A.gf A.jn ["span","how","number"] (atY K):=by
 have Rv:=O3 (P:=P) (w:=w) (base:=base) T
 refine T.xr.ok je (fun vs H Q E h=>?_) (fun cdv A0 outer s H vs Q E hr h=>?_)
 · obtain⟨a,lo,hi,h,m,rfl,_⟩:=h
   rfl
 obtain⟨a,lo,hi,h,m,rfl,ha',q⟩:=h
 have ha:dH K H a [.int lo,.int hi]:=dH.of ha'
 refine⟨_,(zC (zZ (zL xS (pv 0) yQ (zN _)) (zE (zK xP)) zP)
     (zC (We (i:=3) je.nd rfl ‹0› (xR (x:="end") (M:=["span","how","number","at_ends","between"]) rfl (by rfl)) rfl (abS (pv 0)) (fun _ _ _ _=>(zU Rv ‹hr› rfl T.QF T.QD T.QC .nil zQ (zA (pv 0) (zA (pv 2) (zA (pv 3) zD))))))
     (zC (zZ (yO (zW (Ni rfl) (by rfl) T.abl Bt.all (zA (pv 3) zD))) (zE (zK xP)) zP)
     (zC (zT (i:=4) je.nd rfl ‹0› (VH oM oM (zS zX (pv 0) zF (fun _ _=>rfl)) (pv 2) (zS zX (pv 0) zF (fun _ _=>rfl))))
     (zE (zK (lB (PW.pt (Ex (yO (zW (Wx rfl) (by rfl) T.agp PyProof.Rows.boot_any (zA (pv 3) zD))) (vp (yO (pv 4))))) yQ xP))))))),?_⟩
 · skip
   refine⟨_,rfl,rfl,_,rfl,aF ?_⟩
   refine⟨_,rfl,a,rfl,⟨_,ha⟩,?_⟩
   refine Wo (xs:=[.int lo,.int hi]) (by show 2≤sizeLine;decide) (fun i ys H'=>H=H'∧ys=([lo,hi].take i).map (fun e=>V.bl (qp (some e) h m))) ⟨rfl,rfl⟩ (fun i ys H' hw=>by rw [← hw.1];exact ha) (fun i x ys H' hx hl hw=>?_) (fun ys H' hl hw pe hpe=>?_)
   · obtain⟨rfl,rfl⟩:=hw
     obtain⟨e,he,rfl⟩:=oO (l:=[lo,hi]) (f:=V.int) hx
     refine⟨_,rfl,_,rfl,_,rfl,some e,h,m,rfl,rfl,?_⟩
     rw [List.take_succ,he,List.map_append];rfl
   obtain⟨rfl,rfl⟩:=hw
   have q':∀ H',aA H H'→Q (tv (if (qp (some lo) h m && qp (some hi) h m)=true then some true else if (qp (some lo) h m || qp (some hi) h m || (decide (lo<m) && decide (m<hi)))=true then none else some false)) H':=q
   have se:=zG hpe (.lst [.bl (qp (some lo) h m),.bl (qp (some hi) h m)])
   have b0:iM [V.int lo,V.int hi] ((0:Nat):Int)=some (.int lo):=zR rfl
   have b1:iM [V.int lo,V.int hi] ((1:Nat):Int)=some (.int hi):=zR rfl
   dsimp only [List.length_cons,List.length_nil,List.take,List.map] at hpe ⊢
   generalize qp (some lo) h m=c0 at q' se hpe ⊢
   generalize qp (some hi) h m=c1 at q' se hpe ⊢
   refine⟨_,rfl,pe,[c0,c1],rfl,bR.of zB,_,rfl,lC (fun d=>?_) (fun d=>?_)⟩
   · have d':(c0 && c1)=true:=by rw [← d];cases c0 <;> cases c1 <;> rfl
     have:=q' _ se
     rw [if_pos d'] at this
     exact this
   have d':¬ (c0 && c1)=true:=fun e=>d (by rw [← e];cases c0 <;> cases c1 <;> rfl)
   have q2:=q' _ se
   rw [if_neg d'] at q2
   have fin:∀ (bt:Bool),bt=(decide (lo<m) && decide (m<hi))→Q (tv (if (c0 || c1 || bt)=true then none else some false)) (upd H pe (.lst [.bl c0,.bl c1])):=fun bt e=>by rw [e];exact q2
   refine⟨_,rfl,a,_,_,_,rfl,rfl,se.pH ha,b0,_,rfl,_,_,rfl,rfl,_,rfl,lC (fun d=>?_) (fun d=>?_)⟩
   · refine⟨_,rfl,a,_,_,_,rfl,rfl,se.pH ha,b1,_,_,rfl,rfl,?_⟩
     have f:=fin (decide (m<hi)) (by rw [show decide (lo<m)=true from d];rfl)
     refine⟨_,rfl,pe,[c0,c1],rfl,bR.of zB,_,rfl,?_⟩
     cases c0 <;> cases c1 <;> first | exact bA f | skip
     exact aF ⟨_,rfl,_,rfl,by generalize decide (m<hi)=b at f ⊢;cases b <;> first | exact bA f | exact aF f⟩
   · have f:=fin false (by rw [show decide (lo<m)=false from Bool.eq_false_iff.mpr d];rfl)
     refine⟨_,rfl,pe,[c0,c1],rfl,bR.of zB,_,rfl,?_⟩
     cases c0 <;> cases c1 <;> first | exact bA f | skip
     exact aF ⟨_,rfl,_,rfl,aF f⟩
theorem Rx (T:Txt K mg A):aG P w K mg base bQ 6 A.sE A.sI ["self","look"] (acU A 1):=by
 have jA:=oE (P:=P) (w:=w) (base:=base) T
 refine T.NZ.ok Lr (fun vs H Q E h=>?_) (fun cdv A0 outer s H vs Q E hr h=>?_)
 · obtain⟨a,N,t,p,S,rg,l,rfl,_⟩:=h
   rfl
 obtain⟨a,N,t,p,S,rg,l,rfl,⟨dx,ha⟩,hj,⟨cs,g,c,ov,ct,L,R⟩,hz,hm,q⟩:=h
 refine⟨_,(zE (zK (zU jA ‹hr› rfl T.o6 T.o5 T.o4 .nil zQ (zA (FJ (k:=4) Ru (fun _ _ _ _ _ _ _ _ hr=>O1 hr) ‹hr› zQ (pv 1) (zA (zO (pv 0) rfl) zD)) (zA zM (zA (zO (pv 0) rfl) zD)))))),?_⟩
 have R1:=R.kq (XD L)
 cases t with
 | cmp _ _=>cases hj
 | is wd pp =>
   have ha:H a=some (oIs A dx (N 0) wd (.int pp)):=ha
   refine⟨_,rfl,p,rfl,_,rfl,a,_,dx,_,_,rfl,ha,T.jD,T.j9,rfl,.str (N 0),cs,_,rfl,L,?_⟩
   refine⟨_,rfl,g,_,c.dx,gF c ov ct,JRk T,rfl,R1.go,rfl,_,rfl,_,rfl,?_⟩
   refine⟨g,c,ov,ct,S,rg,l,N 0,rfl,R1,hz,hm,fun t H' s' ht=>?_⟩
   have s2:=aA.back s'
   have Lz:=s2 _ _ (J0 ht)
   exact⟨_,rfl,a,_,dx,_,_,rfl,s2 _ _ ha,T.jD,T.tG,rfl,t,_,_,_,_,rfl,Lz,fun H3 s3=>q _ (s2.trans s3)⟩
theorem Ry (T:Txt K mg A):aG P w K mg base bQ 6 A.jX A.jY ["self","look"] (acU A 0):=by
 have jA:=oE (P:=P) (w:=w) (base:=base) T
 refine T.Bd.ok zb (fun vs H Q E h=>?_) (fun cdv A0 outer s H vs Q E hr h=>?_)
 · obtain⟨a,N,t,p,S,rg,l,rfl,_⟩:=h
   rfl
 obtain⟨a,N,t,p,S,rg,l,rfl,⟨dx,ha⟩,hj,⟨cs,g,c,ov,ct,L,R⟩,hz,hm,q⟩:=h
 refine⟨_,(zE (zK (zU jA ‹hr› rfl T.o6 T.o5 T.o4 .nil zQ (zA (FJ (k:=4) Ru (fun _ _ _ _ _ _ _ _ hr=>O1 hr) ‹hr› zQ (pv 1) (zA (zO (pv 0) rfl) zD)) (zA (zO (pv 0) rfl) (zA (zO (pv 0) rfl) zD)))))),?_⟩
 have R1:=R.kq (XD L)
 cases t with
 | is _ _=>cases hj
 | cmp hw m =>
   have ha:H a=some (oCo A dx (N 0) hw m):=ha
   refine⟨_,rfl,p,rfl,_,rfl,a,_,dx,_,_,rfl,ha,T.aD,T.cX,rfl,.str (N 0),cs,_,rfl,L,?_⟩
   refine⟨_,rfl,g,_,c.dx,gF c ov ct,JRk T,rfl,R1.go,rfl,_,rfl,_,rfl,?_⟩
   refine⟨g,c,ov,ct,S,rg,l,N 0,rfl,R1,hz,hm,fun t H' s' ht=>?_⟩
   have s2:=aA.back s'
   have Lz:=s2 _ _ (J0 ht)
   exact⟨_,rfl,a,_,dx,_,_,rfl,s2 _ _ ha,T.aD,T.dY,rfl,_,rfl,a,_,dx,_,_,rfl,s2 _ _ ha,T.aD,T.cj,rfl,t,_,_,_,_,rfl,Lz,fun H3 s3=>q _ (s2.trans s3)⟩
def atZ (T:Txt K mg A) {k:Nat} (hk:6≤k):dI P w K mg base bQ k A.qe "sure":=⟨_,_,_,_,[],[],T.jD,T.Rn,(Rx T).mono hk,T.N5,.nil⟩
def at3 (T:Txt K mg A) {k:Nat} (hk:6≤k):dI P w K mg base bQ k A.cJ "sure":=⟨_,_,_,_,[],[],T.aD,T.DW,(Ry T).mono hk,T.Be,.nil⟩
theorem acW (T:Txt K mg A) {k:Nat} (hk:6≤k) {N:Nm}{H:Hp}{a:Addr}{t:At}{f:Bool} (h:HY A N H f a t):∃ (C dx:Addr) (fs:List (Str × V)) (M:dI P w K mg base bQ k C "sure"),H a=some (.ins C dx fs)∧fs.lookup ‹"sure"› = none∧M.rE=[]∧M.sp=acU A t.c:=by
 obtain⟨dx,h⟩:=h
 cases t with
 | is wd pp=>exact⟨_,dx,_,atZ T hk,h,rfl,rfl,rfl⟩
 | cmp hw m=>exact⟨_,dx,_,at3 T hk,h,rfl,rfl,rfl⟩
theorem Rz (T:Txt K mg A):aG P w K mg base bQ 7 A.qJ A.qK ["self","look"] (agG A):=by
 refine T.KY.ok vo (fun vs H Q E h=>?_) (fun cdv A0 outer s H vs Q E hr h=>?_)
 · obtain⟨a,dx,b,N,t,p,S,rg,l,rfl,_⟩:=h
   rfl
 obtain⟨a,dx,b,N,t,p,S,rg,l,rfl,ha,hb,hL,hz,hm,q⟩:=h
 obtain⟨RB,e1⟩:∃ k:Nat,k=6:=⟨_,rfl⟩
 refine⟨_,(zC (zT (i:=2) vo.nd rfl ‹0› (yD (CX:=bQ) (k:=RB) ‹hr› zQ (zO (pv 0) rfl) (zA (pv 1) zD)))
     (zE (zK (lB (zL xS (pv 2) yQ (zN _)) yQ (ZZ (pv 2)))))),?_⟩
 subst e1
 obtain⟨C,XH,fs,M,h1,h2,m1,m2⟩:=acW (P:=P) (w:=w) (base:=base) T (Nat.le_refl _) hb
 refine⟨_,rfl,a,_,dx,_,_,rfl,ha,T.tH,T.ph,rfl,b,C,XH,fs,M,rfl,h1,h2,_,rfl,?_⟩
 rw [m1,m2]
 refine⟨b,N,t,p,S,rg,l,rfl,hb,rfl,hL,hz,hm,fun H' s'=>?_⟩
 have q':=q H' s'
 cases e:Jm rg N t with
 | none=>rw [e] at q';exact⟨_,rfl,rfl,_,rfl,bA q'⟩
 | some b=>rw [e] at q';exact⟨_,rfl,rfl,_,rfl,aF ⟨_,rfl,.inl ⟨b,rfl,q'⟩⟩⟩
def at4 (T:Txt K mg A):dI P w K mg base bQ 7 A.rG "sure":=⟨_,_,_,_,[],[],T.tH,T.Ot,Rz T,T.KZ,.nil⟩
def acX (A:cM) (j:Nat):Sp:=fun vs H Q _=>∃ a N t,vs=[.ref a]∧HY A N H true a t∧t.c=j∧∀ p H',aA H H'→H' p=some (.lst [.ref a])→Q (.ref p) H'
def agI (A:cM):Sp:=fun vs H Q _=>∃ a dx b N t,vs=[.ref a]∧H a=some (oNo A dx b)∧HY A N H true b t∧∀ p H',aA H H'→H' p=some (.lst [.ref b])→Q (.ref p) H'
theorem O5 (T:Txt K mg A):aG P w K mg base bQ 1 A.qH A.qI ["self"] (acX A 1):=by
 refine T.KQ.ok Jf (fun vs H Q E h=>?_) (fun cdv A0 outer s H vs Q E hr h=>?_)
 · obtain⟨a,N,t,rfl,_⟩:=h
   rfl
 obtain⟨a,N,t,rfl,ha,hj,q⟩:=h
 refine⟨_,(zE (zK (yJ (zA (pv 0) zD)))),?_⟩
 exact⟨_,rfl,(by show 1≤sizeLine;decide),fun p hp=>q p _ (zG hp _) zB⟩
theorem O6 (T:Txt K mg A):aG P w K mg base bQ 1 A.jo A.jq ["self"] (acX A 0):=by
 refine T.xu.ok wH (fun vs H Q E h=>?_) (fun cdv A0 outer s H vs Q E hr h=>?_)
 · obtain⟨a,N,t,rfl,_⟩:=h
   rfl
 obtain⟨a,N,t,rfl,ha,hj,q⟩:=h
 refine⟨_,(zE (zK (yJ (zA (pv 0) zD)))),?_⟩
 exact⟨_,rfl,(by show 1≤sizeLine;decide),fun p hp=>q p _ (zG hp _) zB⟩
theorem agJ (T:Txt K mg A) {k:Nat} (hk:1≤k) {N:Nm}{H:Hp}{a:Addr}{t:At}{f:Bool} (h:HY A N H f a t):∃ (C dx:Addr) (fs:List (Str × V)) (M:dI P w K mg base bQ k C "atoms"),H a=some (.ins C dx fs)∧fs.lookup ‹"atoms"› = none∧M.rE=[]∧M.sp=acX A t.c:=by
 obtain⟨dx,h⟩:=h
 cases t with
 | is wd pp=>exact⟨_,dx,_,⟨_,_,_,_,[],[],T.jD,T.Oq,(O5 T).mono hk,T.KR,.nil⟩,h,rfl,rfl,rfl⟩
 | cmp hw m=>exact⟨_,dx,_,⟨_,_,_,_,[],[],T.aD,T.Bw,(O6 T).mono hk,T.xx,.nil⟩,h,rfl,rfl,rfl⟩
theorem O7 (T:Txt K mg A):aG P w K mg base bQ 2 A.pN A.pO ["self"] (agI A):=by
 refine T.Ip.ok Hs (fun vs H Q E h=>?_) (fun cdv A0 outer s H vs Q E hr h=>?_)
 · obtain⟨a,dx,b,N,t,rfl,_⟩:=h
   rfl
 obtain⟨a,dx,b,N,t,rfl,ha,hb,q⟩:=h
 obtain⟨LC,e1⟩:∃ k:Nat,k=1:=⟨_,rfl⟩
 refine⟨_,(zE (zK (Ae (CX:=bQ) (k:=LC) ‹hr› zQ (zO (pv 0) rfl)))),?_⟩
 subst e1
 obtain⟨C,XH,fs,M,h1,h2,m1,m2⟩:=agJ (P:=P) (w:=w) (base:=base) T (Nat.le_refl _) hb
 refine⟨_,rfl,a,_,dx,_,_,rfl,ha,T.tH,T.ph,rfl,b,C,XH,fs,M,rfl,h1,h2,?_⟩
 dsimp only [Qh]
 rw [m1,m2]
 exact⟨b,N,t,rfl,hb,rfl,q⟩
end
theorem yC {H:Hp}{x dx:Addr} (nx:H x=none) (nd:H dx=none) (o:HO):aA H (upd (upd H dx (.own x)) x o):=fun b u e=>by
 rw [zI (zJ e nx),zI (zJ e nd)];exact e
def XJ (N:Nm) (S:List qm) (t:At):Prop:=∃ r,iH S r∧r.nm=N 0∧Ly r.kd t
def acY (A:cM) (j:Nat):Sp:=fun vs H Q _=>∃ a N t d kvs S,vs=[.ref a,.ref d]∧HY A N H false a t∧t.c=j∧H d=some (.dK kvs)∧Vk A H kvs S∧XJ N S t∧∀ a' H',aA H H'→HY A N H' true a' t→Q (.ref a') H'
def agK (A:cM):Sp:=fun vs H Q _=>∃ a dx b N t d kvs S,vs=[.ref a,.ref d]∧H a=some (oNo A dx b)∧HY A N H false b t∧H d=some (.dK kvs)∧Vk A H kvs S∧XJ N S t∧∀ a' H',aA H H'→Rt A N H' true (.ref a') (t,true)→Q (.ref a') H'
def agL (A:cM):Sp:=fun vs H Q _=>∃ x N s p S rg l,vs=[x,.ref p]∧Rt A N H true x s∧O2 A H p S rg l∧Hy S (N s.1.i)∧N s.1.i∈l∧Jm rg N s.1=none∧∀ b H',aA H H'→HY A N H' true b s.1→Q (.ref b) H'
theorem O2.same {A:cM}{H H':Hp} (s:aA H H') {p:Addr}{S:List qm}{rg:Rg}{l:List Str} (h:O2 A H p S rg l):O2 A H' p S rg l:=by
 obtain⟨cs,g,c,ov,ct,L,R⟩:=h
 exact⟨cs,g,c,ov,ct,Tw s L,R.kq (.of s)⟩
section
variable {P:Program}{w:World}{K:W.Frag}{mg:Str→Option Value}{base:Heap}{A:cM}
theorem xM {t c d:Value}{a b:Bool} (h1:W.kitOne K t c=some a) (h2:W.kitOne K t d=some b):W.kitAny K t [c,d]=some (a || b):=by
 show (match W.kitOne K t c with | some true=>some true | some false=>(match W.kitOne K t d with | some true=>some true | some false=>some false | none=>none) | none=>none)=_
 rw [h1,h2]
 cases a <;> cases b <;> rfl
theorem agM (b:Bool):Fw YN (wdB b)=.bl b:=by
 cases b
 · show Fw YN ‹"no"› = _;decide +kernel
 · show Fw YN ‹"yes"› = _;decide +kernel
theorem Jo (T:Txt K mg A):aG P w K mg base bQ 6 A.nT A.nU ["self","kinds"] (acY A 1):=by
 have lu:=Hv (P:=P) (w:=w) (base:=base) T
 refine T.Gu.ok mq (fun vs H Q E h=>?_) (fun cdv A0 outer s H vs Q E hr h=>?_)
 · obtain⟨a,N,t,d,kvs,S,rfl,_⟩:=h
   rfl
 obtain⟨a,N,t,d,kvs,S,rfl,⟨dx,ha⟩,hj,hd,hK,hG,q⟩:=h
 refine⟨_,(zC (zT (i:=2) mq.nd rfl ‹0› (M8 (xG hr) (pv 1) (zO (pv 0) rfl) ⟨rfl,rfl,rfl,rfl⟩))
     (zC (zZ (xT (yO (zW uh (by rfl) T.aH Bt.isinstance (zA (pv 2) (zA (yA (zA (wY rfl T.aag) (zA (wY rfl T.acB) zD))) zD))))) (zE rF) zP)
     (zC (zT (i:=3) mq.nd rfl ‹0› (yD (CX:=bQ) (k:=4) ‹hr› zQ (pv 2) (zA (zO (pv 0) rfl) zD)))
     (zC (zZ (xT (yO (yD (CX:=bQ) (k:=4) ‹hr› zQ (pv 2) (zA (pv 3) zD)))) (zE rF) zP)
     (zE (zK (xA T.Xn lu ‹hr› rfl T.acz T.Io .nil zQ (zA (zO (pv 0) rfl) (zA (zO (pv 0) rfl) (zA (yD (CX:=bQ) (k:=4) ‹hr› zQ (pv 2) (zA (pv 3) zD)) zD)))))))))),?_⟩
 cases t with
 | cmp _ _=>cases hj
 | is wd pp =>
   have ha:H a=some (oIs A dx (N 0) wd .non):=ha
   obtain⟨r,hr1,hr2,Y4⟩:=hG
   obtain⟨k,k1,k2⟩:=hK _ hr1
   rw [hr2] at k1
   refine⟨_,rfl,d,rfl,.inl ⟨kvs,.inl hd⟩,_,rfl,a,_,dx,_,_,rfl,ha,T.jD,T.j9,rfl,_,gr.k (k:=.inr (N 0)) hd,?_⟩
   rw [k1]
   refine⟨_,rfl,(by show 2≤sizeLine;decide),fun t1 ht1=>?_⟩
   have s1:=zG ht1 (.tup [.ref A.bB,.ref A.cT])
   have ha1:=s1 _ _ ha
   have rT:=k2.kq (.of s1)
   generalize r.kd=x at Y4 rT
   cases x with
   | yn =>
     obtain⟨b,rfl,rfl⟩:=Y4
     obtain⟨dk,q',rT,_⟩:=rT
     have rT:(upd H t1 (.tup [.ref A.bB,.ref A.cT])) k=some (.ins A.bB dk [("low",.int 0),("high",.int 1)]):=rT
     refine⟨_,t1,_,_,_,rfl,zB,rfl,.old (T.Xc _ k dk _ rT),xM T.GR T.Iw,_,rfl,aF ?_⟩
     refine⟨_,rfl,k,_,dk,_,JAn T,rfl,rT,rfl,_,rfl,a,_,dx,_,_,rfl,ha1,T.jD,T.oA,rfl,_,wdB b,rfl,?_⟩
     rw [agM]
     refine⟨_,rfl,k,_,dk,_,JF T,rfl,rT,rfl,_,rfl,_,some b,rfl,_,rfl,aF ?_⟩
     refine⟨_,rfl,a,_,dx,_,_,rfl,ha1,T.jD,T.j9,rfl,_,rfl,a,_,dx,_,_,rfl,ha1,T.jD,T.oA,rfl,?_⟩
     refine⟨_,rfl,k,_,dk,_,JK T,rfl,rT,rfl,_,rfl,_,b,rfl,?_⟩
     intro x J1 nx nd ne
     refine⟨x,J1,_,_,_,rfl,zB,rfl,?_⟩
     rw [yH]
     exact q x _ (s1.trans (yC nx nd _)) ⟨J1,zB⟩
   | pk ws =>
     obtain⟨rO,j,hj',rfl⟩:=Y4
     obtain⟨dk,q',rT,hq⟩:=rT
     have hq:=(hq ws rfl).2
     have rT:(upd H t1 (.tup [.ref A.bB,.ref A.cT])) k=some (oPk A dk (ws.length - 1) q'):=rT
     refine⟨_,t1,_,_,_,rfl,zB,rfl,.old (T.aah _ k dk _ rT),xM T.Iz T.Lj,_,rfl,aF ?_⟩
     refine⟨_,rfl,k,_,dk,_,atV T,rfl,rT,rfl,_,rfl,a,_,dx,_,_,rfl,ha1,T.jD,T.oA,rfl,_,.str wd,rfl,?_⟩
     refine⟨_,rfl,k,_,dk,_,JFP T,rfl,rT,rfl,_,rfl,k,dk,q',ws,_,j,wd,rfl,rT,hq,rO,hj',_,rfl,aF ?_⟩
     refine⟨_,rfl,a,_,dx,_,_,rfl,ha1,T.jD,T.j9,rfl,_,rfl,a,_,dx,_,_,rfl,ha1,T.jD,T.oA,rfl,?_⟩
     refine⟨_,rfl,k,_,dk,_,JKP T,rfl,rT,rfl,_,rfl,k,dk,q',ws,_,j,wd,rfl,rT,hq,rO,hj',?_⟩
     intro x J1 nx nd ne
     refine⟨x,J1,_,_,_,rfl,zB,rfl,?_⟩
     rw [yH]
     exact q x _ (s1.trans (yC nx nd _)) ⟨J1,zB⟩
   | nm _=>exact Y4.elim
   | mo _ _=>exact Y4.elim
   | wh _ _=>exact Y4.elim
theorem Jp (T:Txt K mg A):aG P w K mg base bQ 6 A.ik A.il ["self","kinds"] (acY A 0):=by
 have jg:=Hw (P:=P) (w:=w) (base:=base) T
 refine T.uL.ok tO (fun vs H Q E h=>?_) (fun cdv A0 outer s H vs Q E hr h=>?_)
 · obtain⟨a,N,t,d,kvs,S,rfl,_⟩:=h
   rfl
 obtain⟨a,N,t,d,kvs,S,rfl,⟨dx,ha⟩,hj,hd,hK,hG,q⟩:=h
 refine⟨_,(zC (zZ (PW.pt (xI (zL (Tq (xG hr)) (zO (pv 0) rfl) (pv 1) (by rfl)) (yY (xT (yO (zW uh (by rfl) T.aH Bt.isinstance (zA (oN (xG hr) (pv 1) (zO (pv 0) rfl) (fun _ _=>rfl)) (zA (yA (zA (wY rfl T.aaf) (zA (wY rfl T.aab) zD))) zD)))))))) (zE rF) zP)
     (zE (zK (xA T.Hl jg ‹hr› rfl T.JX T.nZ .nil zQ (zA (zO (pv 0) rfl) (zA (zO (pv 0) rfl) (zA (zO (pv 0) rfl) zD))))))),?_⟩
 cases t with
 | is _ _=>cases hj
 | cmp hw m =>
   have ha:H a=some (oCo A dx (N 0) hw m):=ha
   obtain⟨r,hr1,hr2,Y4⟩:=hG
   obtain⟨k,k1,k2⟩:=hK _ hr1
   rw [hr2] at k1
   have g0:gr H d (.str (N 0)) (some (.ref k)):=by
     have:=gr.k (k:=.inr (N 0)) hd
     rw [k1] at this
     exact this
   refine⟨_,rfl,a,_,dx,_,_,rfl,ha,T.aD,T.cX,rfl,_,rfl,d,_,rfl,g0,_,rfl,bA ?_⟩
   refine⟨_,rfl,_,rfl,a,_,dx,_,_,rfl,ha,T.aD,T.cX,rfl,d,_,rfl,g0,(by show 2≤sizeLine;decide),fun t1 ht1=>?_⟩
   have s1:=zG ht1 (.tup [.ref A.dJ,.ref A.di])
   have ha1:=s1 _ _ ha
   have rT:=k2.kq (.of s1)
   generalize r.kd=x at Y4 rT
   cases x with
   | yn=>exact Y4.elim
   | pk _=>exact Y4.elim
   | nm hi =>
     obtain⟨dk,q',rT,_⟩:=rT
     have rT:(upd H t1 (.tup [.ref A.dJ,.ref A.di])) k=some (.ins A.di dk [("low",.int 0),("high",.int hi)]):=rT
     refine⟨_,t1,_,_,_,rfl,zB,rfl,.old (T.Xh _ k dk _ rT),xM T.G8 T.Hd,_,rfl,aF ?_⟩
     refine⟨_,rfl,a,_,dx,_,_,rfl,ha1,T.aD,T.cX,rfl,_,rfl,a,_,dx,_,_,rfl,ha1,T.aD,T.dY,rfl,_,rfl,a,_,dx,_,_,rfl,ha1,T.aD,T.cj,rfl,?_⟩
     intro x J1 nx nd ne
     refine⟨x,J1,_,_,_,rfl,zB,rfl,?_⟩
     rw [yH]
     exact q x _ (s1.trans (yC nx nd _)) ⟨J1,zB⟩
   | mo lo hi =>
     obtain⟨dk,q',rT,_⟩:=rT
     have rT:(upd H t1 (.tup [.ref A.dJ,.ref A.di])) k=some (.ins A.iJ dk [("low",.int lo),("high",.int hi)]):=rT
     refine⟨_,t1,_,_,_,rfl,zB,rfl,.old (T.Xf _ k dk _ rT),xM T.G6 T.G7,_,rfl,aF ?_⟩
     refine⟨_,rfl,a,_,dx,_,_,rfl,ha1,T.aD,T.cX,rfl,_,rfl,a,_,dx,_,_,rfl,ha1,T.aD,T.dY,rfl,_,rfl,a,_,dx,_,_,rfl,ha1,T.aD,T.cj,rfl,?_⟩
     intro x J1 nx nd ne
     refine⟨x,J1,_,_,_,rfl,zB,rfl,?_⟩
     rw [yH]
     exact q x _ (s1.trans (yC nx nd _)) ⟨J1,zB⟩
   | wh lo hi =>
     obtain⟨dk,q',rT,_⟩:=rT
     have rT:(upd H t1 (.tup [.ref A.dJ,.ref A.di])) k=some (.ins A.dJ dk [("low",.int lo),("high",.int hi)]):=rT
     refine⟨_,t1,_,_,_,rfl,zB,rfl,.old (T.Xd _ k dk _ rT),xM T.GX T.GZ,_,rfl,aF ?_⟩
     refine⟨_,rfl,a,_,dx,_,_,rfl,ha1,T.aD,T.cX,rfl,_,rfl,a,_,dx,_,_,rfl,ha1,T.aD,T.dY,rfl,_,rfl,a,_,dx,_,_,rfl,ha1,T.aD,T.cj,rfl,?_⟩
     intro x J1 nx nd ne
     refine⟨x,J1,_,_,_,rfl,zB,rfl,?_⟩
     rw [yH]
     exact q x _ (s1.trans (yC nx nd _)) ⟨J1,zB⟩
theorem agN (T:Txt K mg A) {k:Nat} (hk:6≤k) {N:Nm}{H:Hp}{a:Addr}{t:At}{f:Bool} (h:HY A N H f a t):∃ (C dx:Addr) (fs:List (Str × V)) (M:dI P w K mg base bQ k C "settled"),H a=some (.ins C dx fs)∧fs.lookup ‹"settled"› = none∧M.rE=[]∧M.sp=acY A t.c:=by
 obtain⟨dx,h⟩:=h
 cases t with
 | is wd pp=>exact⟨_,dx,_,⟨_,_,_,_,[],[],T.jD,T.Jd,(Jo T).mono hk,T.Gv,.nil⟩,h,rfl,rfl,rfl⟩
 | cmp hw m=>exact⟨_,dx,_,⟨_,_,_,_,[],[],T.aD,T.wG,(Jp T).mono hk,T.uM,.nil⟩,h,rfl,rfl,rfl⟩
theorem Jq (T:Txt K mg A):aG P w K mg base bQ 7 A.lY A.lZ ["self","kinds"] (agK A):=by
 have oF:=Hx (P:=P) (w:=w) (base:=base) T
 refine T.Dv.ok BK (fun vs H Q E h=>?_) (fun cdv A0 outer s H vs Q E hr h=>?_)
 · obtain⟨a,dx,b,N,t,d,kvs,S,rfl,_⟩:=h
   rfl
 obtain⟨a,dx,b,N,t,d,kvs,S,rfl,ha,hb,hd,hK,hG,q⟩:=h
 obtain⟨U8,e1⟩:∃ k:Nat,k=6:=⟨_,rfl⟩
 refine⟨_,(zE (zK (xA T.Xo oF ‹hr› rfl T.abn T.tD .nil zQ (zA (yD (CX:=bQ) (k:=U8) ‹hr› zQ (zO (pv 0) rfl) (zA (pv 1) zD)) zD)))),?_⟩
 subst e1
 obtain⟨C,XH,fs,M,h1,h2,m1,m2⟩:=agN (P:=P) (w:=w) (base:=base) T (Nat.le_refl _) hb
 refine⟨_,rfl,a,_,dx,_,_,rfl,ha,T.tH,T.ph,rfl,b,C,XH,fs,M,rfl,h1,h2,_,rfl,?_⟩
 rw [m1,m2]
 refine⟨b,N,t,d,kvs,S,rfl,hb,rfl,hd,hK,hG,fun b' H' s' hb'=>?_⟩
 intro x J1 nx nd ne
 refine⟨x,J1,_,rfl,zB,rfl,?_⟩
 rw [yH]
 have s2:=yC nx nd (oNo A J1 b')
 exact q x _ (s'.trans s2) ⟨x,rfl,.inr ⟨rfl,J1,b',zB,hb'.kq (.of s2)⟩⟩
theorem mAt (T:Txt K mg A) {N:Nm}{H:Hp}{x:V}{s:Sy} (h:Rt A N H true x s):∃ (a C dx:Addr) (fs:List (Str × V)) (M:dI P w K mg base bQ 2 C "atoms"),x=.ref a∧H a=some (.ins C dx fs)∧fs.lookup ‹"atoms"› = none∧M.rE=[]∧∀ (Q:V→Hp→Prop) E,(∀ b la H1,aA H H1→H1 la=some (.lst [.ref b])→HY A N H1 true b s.1→Q (.ref la) H1)→M.sp [x] H Q E:=by
 obtain⟨a,rfl,h⟩:=h
 rcases h with ⟨_,h⟩ | ⟨_,dx,b,h,hb⟩
 · obtain⟨C,dx,fs,M,h1,h2,m1,m2⟩:=agJ (P:=P) (w:=w) (base:=base) T (k:=2) (by decide) h
   refine⟨a,C,dx,fs,M,rfl,h1,h2,m1,fun Q E q=>?_⟩
   rw [m2]
   exact⟨a,N,s.1,rfl,h,rfl,fun p H' s' e=>q a p H' s' e (h.kq (.of s'))⟩
 · refine⟨a,_,dx,_,⟨_,_,_,_,[],[],T.tH,T.Lq,O7 T,T.Ir,.nil⟩,rfl,h,rfl,rfl,fun Q E q=>?_⟩
   exact⟨a,dx,b,N,s.1,rfl,h,hb,fun p H' s' e=>q b p H' s' e (hb.kq (.of s'))⟩
theorem pU (T:Txt K mg A):aG P w K mg base bQ 7 A.dj A.fZ ["self","look"] (agL A):=by
 refine T.rP.ok jy (fun vs H Q E h=>?_) (fun cdv A0 outer s H vs Q E hr h=>?_)
 · obtain⟨x,N,s,p,S,rg,l,rfl,_⟩:=h
   rfl
 obtain⟨x,N,s,p,S,rg,l,rfl,hs,hL,hz,hm,hn,q⟩:=h
 obtain⟨LC,e1⟩:∃ k:Nat,k=2:=⟨_,rfl⟩
 obtain⟨RB,e2⟩:∃ k:Nat,k=6:=⟨_,rfl⟩
 refine⟨_,(zC (xK PassesOwn.never rfl (yT (Ae (CX:=bQ) (k:=LC) ‹hr› zQ (pv 0))) (yP (i:=2) jy.nd rfl ‹0›) (zE (zZ (zL xS (yD (CX:=bQ) (k:=RB) ‹hr› zQ (pv 2) (zA (pv 1) zD)) yQ (zN _)) (zE (zK (pv 2))) zP)))
     (zE (zK yQ))),?_⟩
 subst e1 e2
 obtain⟨a1,C1,dx1,fs1,M,ey,h1,hl,hdv,hsp⟩:=mAt (P:=P) (w:=w) (base:=base) T hs
 refine⟨_,rfl,a1,C1,dx1,fs1,M,ey,h1,hl,?_⟩
 dsimp only [Qh]
 rw [hdv]
 refine hsp _ _ fun b la H1 s1 e1 hb=>?_
 refine⟨la,rfl,⟨_,bR.of e1⟩,?_⟩
 refine yV (xs:=[.ref b]) (fun i σ G=>i=0∧G=H1∧σ=[some x,some (.ref p),none]) ⟨rfl,rfl,rfl⟩ (fun i σ G _ hh=>by rw [hh.2.1];exact bR.of e1) (fun i y σ G hy hw=>?_) (fun σ G hw=>?_)
 · obtain⟨rfl,rfl,rfl⟩:=hw
   cases hy
   obtain⟨C2,XH,fs2,M2,h2,hl2,at6,at7⟩:=acW (P:=P) (w:=w) (base:=base) T (k:=6) (Nat.le_refl _) hb
   refine⟨_,rfl,b,C2,XH,fs2,M2,rfl,h2,hl2,_,rfl,?_⟩
   rw [at6,at7]
   refine⟨b,N,s.1,p,S,rg,l,rfl,hb,rfl,hL.same s1,hz,hm,fun H2 s2=>?_⟩
   rw [hn]
   exact⟨rfl,_,rfl,bA ⟨_,rfl,q _ _ (s1.trans s2) (hb.kq (.of s2))⟩⟩
 · exact absurd hw.1 (Nat.succ_ne_zero 0)
theorem mSt (T:Txt K mg A) {N:Nm}{H:Hp}{x:V}{s:Sy} (h:Rt A N H false x s):∃ (a C dx:Addr) (fs:List (Str × V)) (M:dI P w K mg base bQ 7 C "settled"),x=.ref a∧H a=some (.ins C dx fs)∧fs.lookup ‹"settled"› = none∧M.rE=[]∧∀ (Q:V→Hp→Prop) E d kvs S,H d=some (.dK kvs)→Vk A H kvs S→XJ N S s.1→(∀ y H1,aA H H1→Rt A N H1 true y s→Q y H1)→M.sp [x,.ref d] H Q E:=by
 obtain⟨t,n⟩:=s
 obtain⟨a,rfl,h⟩:=h
 rcases h with ⟨e,h⟩ | ⟨e,dx,b,h,hb⟩
 · cases e
   obtain⟨C,dx,fs,M,h1,h2,m1,m2⟩:=agN (P:=P) (w:=w) (base:=base) T (k:=7) (by decide) h
   refine⟨a,C,dx,fs,M,rfl,h1,h2,m1,fun Q E d kvs S hd hK hG q=>?_⟩
   rw [m2]
   exact⟨a,N,t,d,kvs,S,rfl,h,rfl,hd,hK,hG,fun a' H' s' h'=>q _ _ s' ⟨a',rfl,.inl ⟨rfl,h'⟩⟩⟩
 · cases e
   refine⟨a,_,dx,_,⟨_,_,_,_,[],[],T.tH,T.Hn,Jq T,T.Dw,.nil⟩,rfl,h,rfl,rfl,fun Q E d kvs S hd hK hG q=>?_⟩
   exact⟨a,dx,b,N,t,d,kvs,S,rfl,h,hb,hd,hK,hG,fun a' H' s' h'=>q _ _ s' h'⟩
theorem mSu (T:Txt K mg A) {N:Nm}{H:Hp}{x:V}{s:Sy} (h:Rt A N H true x s):∃ (a C dx:Addr) (fs:List (Str × V)) (M:dI P w K mg base bQ 7 C "sure"),x=.ref a∧H a=some (.ins C dx fs)∧fs.lookup ‹"sure"› = none∧M.rE=[]∧∀ H1 (Q:V→Hp→Prop) E p S rg l,Rt A N H1 true x s→O2 A H1 p S rg l→Hy S (N s.1.i)→N s.1.i∈l→(∀ H',aA H1 H'→Q (tv (tri rg N s)) H')→M.sp [x,.ref p] H1 Q E:=by
 obtain⟨t,n⟩:=s
 obtain⟨a,rfl,h⟩:=h
 rcases h with ⟨e,h⟩ | ⟨e,dx,b,h,hb⟩
 · cases e
   obtain⟨C,dx,fs,M,h1,h2,m1,m2⟩:=acW (P:=P) (w:=w) (base:=base) T (k:=7) (by decide) h
   refine⟨a,C,dx,fs,M,rfl,h1,h2,m1,fun H1 Q E p S rg l hS hL hz hm q=>?_⟩
   rw [m2]
   obtain⟨a',ea,hS⟩:=hS
   cases ea
   rcases hS with ⟨_,hS⟩ | ⟨z,_⟩
   · exact⟨a,N,t,p,S,rg,l,rfl,hS,rfl,hL,hz,hm,q⟩
   · cases z
 · cases e
   refine⟨a,_,dx,_,at4 T,rfl,h,rfl,rfl,fun H1 Q E p S rg l hS hL hz hm q=>?_⟩
   obtain⟨a',ea,hS⟩:=hS
   cases ea
   rcases hS with ⟨z,_⟩ | ⟨_,J1,b',h',hb'⟩
   · cases z
   · exact⟨a,J1,b',N,t,p,S,rg,l,rfl,h',hb',hL,hz,hm,q⟩
theorem mFo (T:Txt K mg A) {N:Nm}{H:Hp}{x:V}{s:Sy} (h:Rt A N H true x s):∃ (a C dx:Addr) (fs:List (Str × V)) (M:dI P w K mg base bQ 7 C "first_open"),x=.ref a∧H a=some (.ins C dx fs)∧fs.lookup ‹"first_open"› = none∧M.rE=[]∧M.sp=agL A:=by
 obtain⟨t,n⟩:=s
 obtain⟨a,rfl,h⟩:=h
 rcases h with ⟨_,dx,h⟩ | ⟨_,dx,b,h,_⟩
 · cases t with
   | is wd pp=>exact⟨a,_,dx,_,⟨_,_,_,_,[],[],T.jD,T.Bv,pU T,T.gb,.nil⟩,rfl,h,rfl,rfl,rfl⟩
   | cmp hw m=>exact⟨a,_,dx,_,⟨_,_,_,_,[],[],T.aD,T.rQ,pU T,T.gb,.nil⟩,rfl,h,rfl,rfl,rfl⟩
 · exact⟨a,_,dx,_,⟨_,_,_,_,[],[],T.tH,T.yo,pU T,T.gb,.nil⟩,rfl,h,rfl,rfl,rfl⟩
end
def keyOf (z:Str):List Key:=[.inr z,.inl 0]
def gn (n:Str):List V:=[.str ‹"ask"›,.str n,.int 0]
def Hz:List V:=[.str ‹"end"›]
def jB (H:Hp) (x:V) (t:List V):Prop:=∃ a,x=.ref a∧H a=some (.tup t)
theorem jB.kq {H H':Hp} (f:Kq H H') {x:V}{t:List V} (h:jB H x t):jB H' x t:=by
 obtain⟨a,e,h1⟩:=h
 exact⟨a,e,f _ _ h1 trivial⟩
abbrev Ct:=Option (Str × Int)
def XM (H:Hp) (v:V):Ct→Prop
 | none=>v=.non
 | some q=>jB H v [.str q.1,.int 0,.int q.2]
theorem XM.kq {H H':Hp} (f:Kq H H') {v:V}{t:Ct} (h:XM H v t):XM H' v t:=by
 cases t with
 | none=>exact h
 | some q=>exact jB.kq f h
def BxR (H:Hp) (bx:Addr) (S:List qm) (rg:Rg):Prop:=∃ b,H bx=some (.dT b)∧∀ r,iH S r→(∃ t,eF b (keyOf r.nm)=some (.ref t)∧H t=some (.tup [.int (rg r.nm).1,.int (rg r.nm).2]))∨(eF b (keyOf r.nm)=none∧rg r.nm=(r.kd.lo,r.kd.hi))
theorem BxR.kq {H H':Hp} (f:Kq H H') {bx:Addr}{S:List qm}{rg:Rg} (h:BxR H bx S rg):BxR H' bx S rg:=by
 obtain⟨b,h1,h2⟩:=h
 refine⟨b,f _ _ h1 trivial,fun r hr=>?_⟩
 rcases h2 r hr with ⟨t,a,b⟩ | a
 · exact .inl ⟨t,a,f _ _ b trivial⟩
 · exact .inr a
structure Gs where
 l:List Str
 L:List (List V)
 D:List Str
 ov:Bool
 ct:Ct
structure Cst (A:cM) (N:Nm) (H0:Hp) (c:GA) (S:List qm) (rg:Rg) (Pt:Addr) (td:Array Value):Prop where
 pa:PQ A N H0 c.pa S
 bx:∃ b,H0 c.bx=some (.dT b)∧∀ r,iH S r→(∃ t,eF b (keyOf r.nm)=some (.ref t)∧H0 t=some (.tup [.int (rg r.nm).1,.int (rg r.nm).2]))∨(eF b (keyOf r.nm)=none∧rg r.nm=(r.kd.lo,r.kd.hi))
 tb:H0 Pt=some (.iI td)
 kd:∃ kvs,H0 c.kd=some (.dK kvs)∧Vk A H0 kvs S
 ed:∃ kvs,H0 c.ed=some (.dK kvs)∧EdR kvs S
 tg:H0 c.tg=some (.dK [])
 gs:GS N S
structure m5 (A:cM) (N:Nm) (H0:Hp) (c:GA) (S:List qm) (rg:Rg) (Pt:Addr) (td:Array Value) (g:Addr) (H:Hp) (s:Gs):Prop where
 same:aA H0 H
 cst:Cst A N H0 c S rg Pt td
 ng:H0 g=none
 Vl:H0 c.aq=none
 Vm:H0 c.lg=none
 XN:H0 c.db=none
 ld:c.lg≠c.db
 go:∃ cv,H g=some (oGo A c s.ov cv)∧XM H cv s.ct
 aq:∃ kvs,H c.aq=some (.dK kvs)∧AqR H kvs rg s.l∧∀ z d,eF kvs (.inr z)=some (.ref d)→H0 d=none∧d≠c.aq∧∀ z',eF kvs (.inr z')=some (.ref d)→z'=z
 lg:∃ ts,H c.lg=some (.lst ts)∧Paired (jB H) ts s.L
 db:H c.db=some (.lst (s.D.map V.str))
section
variable {A:cM}{N:Nm}{H0 H H':Hp}{c:GA}{S:List qm}{rg:Rg}{Pt:Addr}{td:Array Value}{g:Addr}{s:Gs}
theorem m5.rk (h:m5 A N H0 c S rg Pt td g H s):∃ cv,RkS A H g c s.ov cv S rg s.l∧XM H cv s.ct:=by
 obtain⟨k,k1,k2⟩:=h.cst.ed
 obtain⟨a,a1,a2,_⟩:=h.aq
 obtain⟨cv,g1,g2⟩:=h.go
 exact⟨cv,⟨g1,h.same _ _ h.cst.tg,⟨k,h.same _ _ k1,k2⟩,⟨a,a1,a2⟩⟩,g2⟩
theorem m5.mono (h:m5 A N H0 c S rg Pt td g H s) (f:aA H H'):m5 A N H0 c S rg Pt td g H' s:=by
 obtain⟨a,a1,a2,a3⟩:=h.aq
 obtain⟨t,t1,t2⟩:=h.lg
 obtain⟨cv,g1,g2⟩:=h.go
 exact⟨h.same.trans f,h.cst,h.ng,h.Vl,h.Vm,h.XN,h.ld,⟨cv,f _ _ g1,g2.kq (.of f)⟩,⟨a,f _ _ a1,a2.kq (.of f),a3⟩,⟨t,f _ _ t1,zH t2 fun _ _=>jB.kq (.of f)⟩,f _ _ h.db⟩
theorem qt {H0 H:Hp}{m:Addr} (s:aA H0 H) (n:H0 m=none) (o:HO):aA H0 (upd H m o):=fun x u hx=>by
 rw [zI (zJ hx n)];exact s _ _ hx
theorem RC {m:Addr}{o u:HO}{e:List V} (hm:H m=some u) (hu:∀ t,u≠.tup t) {x:V} (h:jB H x e):jB (upd H m o) x e:=by
 obtain⟨a,e,h1⟩:=h
 exact⟨a,e,by rw [zI (yN h1 hm fun z=>hu _ z.symm)];exact h1⟩
theorem LK {m:Addr}{o u:HO}{L:List (List V)} (hm:H m=some u) (hu:∀ t,u≠.tup t) {ts:List V} (h:Paired (jB H) ts L):Paired (jB (upd H m o)) ts L:=zH h fun x t z=>RC hm hu z
theorem RD {m:Addr}{o u:HO}{v:V}{t:Ct} (hm:H m=some u) (hu:∀ t,u≠.tup t) (h:XM H v t):XM (upd H m o) v t:=by
 cases t with
 | none=>exact h
 | some q=>exact RC hm hu h
theorem XQ {m:Addr}{o u:HO}{l:List Str}{kvs:List (Key × V)} (hm:H m=some u) (hu:∀ t,u≠.dK t) (hv:∀ t,u≠.tup t) (h:AqR H kvs rg l):AqR (upd H m o) kvs rg l:=⟨h.1,fun z hz=>by
 obtain⟨d,t,h2,h3,h4⟩:=h.2.1 z hz
 exact⟨d,t,h2,by rw [zI (yN h3 hm fun z=>hu _ z.symm)];exact h3,by rw [zI (yN h4 hm fun z=>hv _ z.symm)];exact h4⟩,h.2.2⟩
theorem m5.setG (h:m5 A N H0 c S rg Pt td g H s) (o:Bool) {cv:V}{ct:Ct} (hc:XM H cv ct):m5 A N H0 c S rg Pt td g (upd H g (oGo A c o cv)) ⟨s.l,s.L,s.D,o,ct⟩:=by
 obtain⟨a,a1,a2,a3⟩:=h.aq
 obtain⟨t,t1,t2⟩:=h.lg
 obtain⟨cv',g1,g2⟩:=h.go
 refine⟨qt h.same h.ng _,h.cst,h.ng,h.Vl,h.Vm,h.XN,h.ld,⟨cv,zB,RD g1 (fun _ z=>by cases z) hc⟩,⟨a,?_,XQ g1 (fun _ z=>by cases z) (fun _ z=>by cases z) a2,a3⟩,⟨t,?_,LK g1 (fun _ z=>by cases z) t2⟩,?_⟩
 · rw [zI (yN a1 g1 (by intro z;cases z))];exact a1
 · rw [zI (yN t1 g1 (by intro z;cases z))];exact t1
 · rw [zI (yN h.db g1 (by intro z;cases z))];exact h.db
theorem m5.app (h:m5 A N H0 c S rg Pt td g H s) {ts:List V} (t1:H c.lg=some (.lst ts)) {t:Addr}{e:List V} (ht:H t=some (.tup e)):m5 A N H0 c S rg Pt td g (upd H c.lg (.lst (ts++[.ref t]))) ⟨s.l,s.L++[e],s.D,s.ov,s.ct⟩:=by
 obtain⟨a,a1,a2,a3⟩:=h.aq
 obtain⟨t',t1',t2⟩:=h.lg
 obtain⟨cv,g1,g2⟩:=h.go
 rw [t1] at t1';cases t1'
 refine⟨qt h.same h.Vm _,h.cst,h.ng,h.Vl,h.Vm,h.XN,h.ld,⟨cv,?_,RD t1 (fun _ z=>by cases z) g2⟩,⟨a,?_,XQ t1 (fun _ z=>by cases z) (fun _ z=>by cases z) a2,a3⟩,⟨_,zB,xH (LK t1 (fun _ z=>by cases z) t2) (.cons ⟨t,rfl,?_⟩ .nil)⟩,?_⟩
 · rw [zI (yN g1 t1 (by intro z;cases z))];exact g1
 · rw [zI (yN a1 t1 (by intro z;cases z))];exact a1
 · rw [zI (yN ht t1 (by intro z;cases z))];exact ht
 · rw [zI (Ne.symm h.ld)];exact h.db
theorem Cst.iI (h:Cst A N H0 c S rg Pt td) (Y5:Array Value):Cst A N (upd H0 Pt (.iI Y5)) c S rg Pt Y5:=by
 have k:Kq H0 (upd H0 Pt (.iI Y5)):=fun b o e p=>by
   rw [zI]
   · exact e
   · rintro rfl;rw [h.tb] at e;cases e;exact p
 obtain⟨c1,⟨b,c2,c3⟩,c4,⟨kv,c5,c6⟩,⟨e,c7,c8⟩,c9,c10⟩:=h
 refine⟨c1.kq k,⟨b,k _ _ c2 trivial,fun r hr=>?_⟩,zB,⟨kv,k _ _ c5 trivial,c6.kq k⟩,⟨e,k _ _ c7 trivial,c8⟩,k _ _ c9 trivial,c10⟩
 rcases c3 r hr with ⟨t,h1,h2⟩ | h1
 · exact .inl ⟨t,h1,k _ _ h2 trivial⟩
 · exact .inr h1
theorem m5.iI (h:m5 A N H0 c S rg Pt td g H s) {Y5:Array Value} (f:∀ b o,b≠Pt→H b=some o→H' b=some o) (ht:H' Pt=some (.iI Y5)):m5 A N (upd H0 Pt (.iI Y5)) c S rg Pt Y5 g H' s:=by
 have hP:=h.same _ _ h.cst.tb
 have k:Kq H H':=fun b o e p=>f b o (by rintro rfl;rw [hP] at e;cases e;exact p) e
 have nn:∀ {b:Addr},H0 b=none→upd H0 Pt (.iI Y5) b=none:=fun {b} e=>by rw [zI (Ne.symm (zJ h.cst.tb e))];exact e
 obtain⟨a,a1,a2,a3⟩:=h.aq
 obtain⟨t,t1,t2⟩:=h.lg
 obtain⟨cv,g1,g2⟩:=h.go
 refine⟨fun b o e=>?_,h.cst.iI Y5,nn h.ng,nn h.Vl,nn h.Vm,nn h.XN,h.ld,⟨cv,k _ _ g1 trivial,g2.kq k⟩,⟨a,k _ _ a1 trivial,a2.kq k,fun z d hz=>⟨nn (a3 z d hz).1,(a3 z d hz).2⟩⟩,⟨t,k _ _ t1 trivial,zH t2 fun _ _=>jB.kq k⟩,k _ _ h.db trivial⟩
 by_cases e1:b=Pt
 · subst e1;rw [zB] at e;cases e;exact ht
 · rw [zI e1] at e;exact f b o e1 (h.same _ _ e)
theorem acZ {H:Hp}{a:Addr}{o:HO} (h:H a=some o):upd H a o=H:=by
 funext b
 by_cases e:b=a
 · subst e;rw [zB,h]
 · rw [zI e]
end
def XR (A:cM) (Pt:Addr):Sp:=fun vs H Q _=>∃ N H0 c S rg td g s t e,vs=[.ref g,.ref t]∧m5 A N H0 c S rg Pt td g H s∧H t=some (.tup e)∧s.L.length≤1000∧∀ H',m5 A N H0 c S rg Pt td g H' ⟨s.l,s.L++[e],s.D,true,s.ct⟩→Q .non H'
def aav (A:cM) (Pt:Addr):Sp:=fun vs H Q _=>∃ N H0 c S rg td g s z k,vs=[.ref g,.str z,.int 0,.int k]∧m5 A N H0 c S rg Pt td g H s∧∀ H',m5 A N H0 c S rg Pt td g H' ⟨s.l,s.L,s.D,true,some (z,k)⟩→Q .non H'
section
variable {P:Program}{w:World}{K:W.Frag}{mg:Str→Option Value}{base:Heap}{A:cM}{Pt:Addr}
theorem aaw (T:Txt K mg A):aG P w K mg base bQ 1 A.ie A.ig ["self","row"] (XR A Pt):=by
 refine T.uJ.ok tM (fun vs H Q E h=>?_) (fun cdv A0 outer s H vs Q E hr h=>?_)
 · obtain⟨N,H0,c,S,rg,td,g,s,t,e,rfl,_⟩:=h
   rfl
 obtain⟨N,H0,c,S,rg,td,g,s,t,e,rfl,hG,ht,hl,k⟩:=h
 refine⟨_,(zC (yG (mC PySem.F.plainAttrs_list PySem.F.slot_list_append PySem.F.type_list_append yU (zO (pv 0) rfl) (zA (pv 1) zD)))
     (zE (yI (pv 0) xP rfl))),?_⟩
 obtain⟨ts,t1,t2⟩:=hG.lg
 obtain⟨cv,g1,g2⟩:=hG.go
 have tl:=zV t2
 refine⟨_,rfl,g,_,c.dx,_,_,rfl,g1,T.aC,T.mU,rfl,.inl ⟨rfl,_,bR.of t1⟩,_,rfl,c.lg,_,_,rfl,rfl,t1,yK (m:=1000000) (by omega),?_⟩
 have G1:=hG.app t1 ht
 obtain⟨cv',g1',g2'⟩:=G1.go
 refine⟨_,rfl,g,_,c.dx,_,rfl,g1',T.aC,T.fB,(by show 11<1000;decide),?_⟩
 exact k _ (G1.setG true g2')
theorem XS (T:Txt K mg A):aG P w K mg base bQ 1 A.iZ A.jb ["self","question","thing","cut"] (aav A Pt):=by
 refine T.wk.ok uV (fun vs H Q E h=>?_) (fun cdv A0 outer s H vs Q E hr h=>?_)
 · obtain⟨N,H0,c,S,rg,td,g,s,z,k,rfl,_⟩:=h
   rfl
 obtain⟨N,H0,c,S,rg,td,g,s,z,k,rfl,hG,q⟩:=h
 refine⟨_,(zC (yI (pv 0) (yA (zA (pv 1) (zA (pv 2) (zA (pv 3) zD)))) rfl)
     (zE (yI (pv 0) xP rfl))),?_⟩
 refine⟨_,rfl,_,rfl,_,rfl,(by show 3≤sizeLine;decide),fun p hp=>?_⟩
 have s1:=zG hp (.tup [.str z,.int 0,.int k])
 have G1:=hG.mono s1
 obtain⟨cv,g1,g2⟩:=G1.go
 have hc:XM (upd H p (.tup [.str z,.int 0,.int k])) (.ref p) (some (z,k)):=⟨p,rfl,zB⟩
 refine⟨_,rfl,g,_,c.dx,_,rfl,g1,T.aC,T.gO,(by show 11<1000;decide),?_⟩
 have G2:=G1.setG s.ov hc
 obtain⟨cv',g1',g2'⟩:=G2.go
 refine⟨_,rfl,g,_,c.dx,_,rfl,zB,T.aC,T.fB,(by show 11<1000;decide),?_⟩
 refine q _ (G2.setG true (cv:=.ref p) (ct:=some (z,k)) ?_)
 exact RD g1 (fun _ z=>by cases z) hc
def JSp (T:Txt K mg A):dI P w K mg base bQ 4 A.az "split_at":=⟨_,_,_,_,[],[],T.aC,T.yj,(XS (Pt:=Pt) T).mono (by decide),T.wu,.nil⟩
end
end iy
set_option maxHeartbeats 4000000
namespace L2
open PySem PySem.Spec PyProof.Rows PySem.Calls
theorem aax {X:Cx}:iw X (compareOp .Is) (fun x y H Q=>∃ (o:Option Bool) (d:Bool),(match o with | none=>x=.non | some b=>x=.bl b)∧y=.bl d∧Q (.bl (decide (o=some d))) H):=by
 intro pins s σ H x y v u Q I rx ry h
 obtain⟨o,d,hx,rfl,q⟩:=h
 cases ry
 cases o with
 | none =>
   have hx:x=.non:=hx
   subst hx
   cases rx
   exact wpAny_pure ⟨.bl _,H,I,rfl,q⟩
 | some b =>
   have hx:x=.bl b:=hx
   subst hx
   cases rx
   refine is_bool ⟨.bl _,H,I,rfl,?_⟩
   have e:decide (some b=some d)=(b == d):=by cases b <;> cases d <;> rfl
   rw [e] at q
   exact q
end L2
namespace iy
open PySem L2
seal PE PT PW PA PS m6 PG uC PI PO ji iw wN cg jj rN rM PC wW
local macro_rules | `(tactic| walk_at "rd1") => `(tactic| first
 | (refine And.intro rfl ?_)
 | (refine And.intro (by assumption) ?_)
 | (refine And.intro (fun _ e=>e) ?_)
 | (refine And.intro (aB.str _) ?_) | (refine And.intro (aB.int _) ?_) | (refine And.intro (aB.bl _) ?_) | (refine And.intro aB.non ?_)
 | (refine bA ?_) | (refine aF ?_)
 | (apply Exists.intro))
local macro_rules | `(tactic| walk_at "rd") => `(tactic| repeat (walk_at "rd1"))
def RG (m lo:Int):Int:=if lo<m then m - 1 else m
def kj (t:At) (lo:Int):Int:=if t.h="<" then t.m - 1 else if t.h=">" then t.m else RG t.m lo
def at9:Sp:=fun vs H Q _=>∃ m lo,vs=[.int m,.int lo]∧Q (.int (RG m lo)) H
def agO (A:cM):Sp:=fun vs H Q _=>∃ a N t lo,vs=[.ref a,.int lo]∧HY A N H true a t∧Q (.int (kj t lo)) H
def aua (A:cM) (Pt:Addr):Sp:=fun vs H Q _=>∃ N H0 c S rg td g s b t,vs=[.ref g,.ref b,.int 0]∧m5 A N H0 c S rg Pt td g H s∧HY A N H true b t∧N t.i∈s.l∧∀ H',m5 A N H0 c S rg Pt td g H' ⟨s.l,s.L,s.D,true,some (N t.i,kj t (rg (N t.i)).1)⟩→Q .non H'
theorem GS.ask {N:Nm}{S:List qm} (h:GS N S) (t:At):Hy S (N t.i):=by
 obtain⟨r,hr,e,_⟩:=h.q0
 refine⟨r,hr,?_⟩
 cases t <;> exact e
section
variable {P:Program}{w:World}{K:W.Frag}{mg:Str→Option Value}{base:Heap}{A:cM}{Pt:Addr}
theorem RJ (T:Txt K mg A):aG P w K mg base bQ 1 A.uq A.Ah ["number","low"] at9:=by
 refine T.Uw.ok Rp (fun vs H Q E h=>?_) (fun cdv A0 outer s H vs Q E hr h=>?_)
 · obtain⟨m,lo,rfl,_⟩:=h
   rfl
 obtain⟨m,lo,rfl,q⟩:=h
 refine⟨_,(zE (zK (lB (zL oM (pv 1) (pv 0) (zN _)) (zY rY (pv 0) zF) (pv 0)))),?_⟩
 unfold RG at q
 refine⟨_,rfl,_,rfl,_,_,rfl,rfl,_,rfl,lC (fun d=>?_) (fun d=>?_)⟩
 · rw [if_pos (of_decide_eq_true d)] at q
   exact⟨_,rfl,_,_,rfl,rfl,q⟩
 · rw [if_neg (fun z=>d (decide_eq_true z))] at q
   exact⟨_,rfl,q⟩
theorem U9 (T:Txt K mg A):aG P w K mg base bQ 2 A.xn A.FW ["atom","low"] (agO A):=by
 have J2:=RJ (P:=P) (w:=w) (base:=base) T
 refine T.WT.ok U6 (fun vs H Q E h=>?_) (fun cdv A0 outer s H vs Q E hr h=>?_)
 · obtain⟨a,N,t,lo,rfl,_⟩:=h
   rfl
 obtain⟨a,N,t,lo,rfl,⟨dx,ha⟩,q⟩:=h
 refine⟨_,(zC (zZ (yO (zW yS (by rfl) T.aH Bt.isinstance (zA (pv 0) (zA (wY rfl T.atR) zD)))) (zE (zK (zU J2 ‹hr› rfl T.JS T.JR T.JQ .nil zQ (zA (zO (pv 0) rfl) (zA (pv 1) zD))))) zP)
     (zC (zZ (zL yM (zO (pv 0) rfl) zM (zN _)) (zE (zK (zY rY (zO (pv 0) rfl) zF))) zP)
     (zC (zZ (zL yM (zO (pv 0) rfl) zM (zN _)) (zE (zK (zO (pv 0) rfl))) zP)
     (zE (zK (zU J2 ‹hr› rfl T.JS T.JR T.JQ .nil zQ (zA (zO (pv 0) rfl) (zA (pv 1) zD)))))))),?_⟩
 unfold kj at q
 cases t with
 | is wd pp =>
   have ha:H a=some (oIs A dx (N 0) wd (.int pp)):=ha
   have q:Q (.int (RG pp lo)) H:=by
     rw [if_neg (by show ‹"="› ≠ ‹"<"›;decide +kernel),if_neg (by show ‹"="› ≠ ‹">"›;decide +kernel)] at q
     exact q
   refine⟨_,rfl,_,_,_,_,rfl,rfl,.old (T.ags H a dx _ ha),T.Xb,_,rfl,bA ?_⟩
   exact⟨_,rfl,a,_,dx,_,_,rfl,ha,T.jD,T.tG,rfl,_,rfl,_,_,rfl,q⟩
 | cmp hw m =>
   have ha:H a=some (oCo A dx (N 0) hw m):=ha
   have q:Q (.int (if hw="<" then m - 1 else if hw=">" then m else RG m lo)) H:=q
   refine⟨_,rfl,_,_,_,_,rfl,rfl,.old (T.Ro H a dx _ ha),T.IK,_,rfl,aF ?_⟩
   refine⟨_,rfl,a,_,dx,_,_,rfl,ha,T.aD,T.dY,rfl,rfl,_,rfl,?_⟩
   by_cases h1:hw="<"
   · rw [if_pos h1] at q
     exact CW h1 ⟨_,rfl,a,_,dx,_,_,rfl,ha,T.aD,T.cj,rfl,_,_,rfl,rfl,q⟩
   rw [if_neg h1] at q
   refine mz h1 ⟨_,rfl,a,_,dx,_,_,rfl,ha,T.aD,T.dY,rfl,rfl,_,rfl,?_⟩
   by_cases h2:hw=">"
   · rw [if_pos h2] at q
     exact CW h2 ⟨_,rfl,a,_,dx,_,_,rfl,ha,T.aD,T.cj,rfl,q⟩
   rw [if_neg h2] at q
   exact mz h2 ⟨_,rfl,a,_,dx,_,_,rfl,ha,T.aD,T.cj,rfl,_,rfl,_,_,rfl,q⟩
theorem O8 (T:Txt K mg A):aG P w K mg base bQ 5 A.jc A.jd ["self","atom","thing"] (aua A Pt):=by
 have XX:=U9 (P:=P) (w:=w) (base:=base) T
 refine T.wy.ok mD (fun vs H Q E h=>?_) (fun cdv A0 outer s H vs Q E hr h=>?_)
 · obtain⟨N,H0,c,S,rg,td,g,s,b,t,rfl,_⟩:=h
   rfl
 obtain⟨N,H0,c,S,rg,td,g,s,b,t,rfl,hG,hb,hm,q⟩:=h
 obtain⟨wK,e1⟩:∃ k:Nat,k=3:=⟨_,rfl⟩
 obtain⟨tX,e2⟩:∃ k:Nat,k=2:=⟨_,rfl⟩
 obtain⟨RK,e3⟩:∃ k:Nat,k=4:=⟨_,rfl⟩
 refine⟨_,(zE (zZ (zL (Tq (xG hr)) (zO (pv 1) rfl) (zO (pv 0) rfl) (by rfl)) (zE (yG Wy)) (zC (zT (i:=3) mD.nd rfl ‹0› (zS zX (yD (CX:=bQ) (k:=wK) ‹hr› zQ (pv 0) (zA (zO (pv 1) rfl) (zA (pv 2) zD))) zF (fun _ _=>rfl)))
     (zE (yG (yD (CX:=bQ) (k:=RK) ‹hr› zQ (pv 0) (zA (zO (pv 1) rfl) (zA (yD (CX:=bQ) (k:=tX) ‹hr› zQ (pv 0) (zA (zO (pv 1) rfl) (zA (pv 2) zD))) (zA (zU XX ‹hr› rfl T.WY T.WX T.WW .nil zQ (zA (pv 1) (zA (pv 3) zD))) zD))))))))),?_⟩
 subst e1 e2 e3
 obtain⟨cv,hR,hc⟩:=hG.rk
 obtain⟨C,dx,fs,f1,f2,f3,f4⟩:∃ C dx fs,H b=some (.ins C dx fs)∧De K C∧aL K C "name"∧fs.lookup ‹"name"› = some (.str (N t.i)):=by
   obtain⟨dx,hb⟩:=hb
   cases t with
   | is _ _=>exact⟨_,dx,_,hb,T.jD,T.j9,rfl⟩
   | cmp hw m=>exact⟨_,dx,_,hb,T.aD,T.cX,rfl⟩
 have hz:=hG.cst.gs.ask t
 refine⟨_,rfl,b,C,dx,fs,_,rfl,f1,f2,f3,f4,_,rfl,g,_,c.dx,gF c s.ov cv,_,rfl,hR.go,T.aC,T.jx,rfl,c.tg,_,rfl,gr.k (k:=.inr (N t.i)) hR.tg,_,rfl,aF ?_⟩
 refine⟨_,rfl,g,_,c.dx,gF c s.ov cv,JKn T,rfl,hR.go,rfl,_,rfl,b,C,dx,fs,_,rfl,f1,f2,f3,f4,_,rfl,?_⟩
 refine⟨g,c,s.ov,cv,S,rg,s.l,N t.i,rfl,hR,hz,hm,fun u H1 s1 hu=>?_⟩
 have b0:iM [V.int (rg (N t.i)).1,V.int (rg (N t.i)).2] ((0:Nat):Int)=some (.int (rg (N t.i)).1):=zR rfl
 have G1:=hG.mono s1
 have R1:=hR.kq (.of s1)
 refine⟨u,_,_,_,rfl,rfl,dH.of (s1 _ _ hu),b0,?_⟩
 refine⟨_,rfl,g,_,c.dx,gF c s.ov cv,JSp (Pt:=Pt) T,rfl,R1.go,rfl,_,rfl,b,C,dx,fs,_,rfl,s1 _ _ f1,f2,f3,f4,?_⟩
 refine⟨_,rfl,g,_,c.dx,gF c s.ov cv,JOw T,rfl,R1.go,rfl,_,rfl,b,C,dx,fs,_,rfl,s1 _ _ f1,f2,f3,f4,_,rfl,?_⟩
 refine⟨g,c,s.ov,cv,S,rg,s.l,N t.i,rfl,R1,hz,?_⟩
 refine⟨_,rfl,_,rfl,b,N,t,_,rfl,hb.kq (.of s1),?_⟩
 exact⟨N,H0,c,S,rg,td,g,s,_,_,rfl,G1,q⟩
def JSb (T:Txt K mg A) {k:Nat} (hk:5≤k):dI P w K mg base bQ k A.az "split_by":=⟨_,_,_,_,[],[],T.aC,T.yl,(O8 (Pt:=Pt) T).mono hk,T.wz,.nil⟩
end
abbrev Es:Array Value:=d8 DL.qual U7
def soB (rg:Rg) (N:Nm):Sg→Bool
 | none=>true
 | some y=>decide (tri rg N y=some true)
def RM (rg:Rg) (N:Nm) (s:Gs):Sg→Gs
 | none=>s
 | some y=>if tri rg N y=none then ⟨s.l,s.L,s.D,true,some (N y.1.i,kj y.1 (rg (N y.1.i)).1)⟩ else s
def aub (A:cM) (Pt:Addr):Sp:=fun vs H Q _=>∃ N H0 c S rg g s x sg,vs=[.ref g,x,.int 0]∧m5 A N H0 c S rg Pt Es g H s∧SgR A N H x sg∧(∀ y,sg=some y→N y.1.i∈s.l∧XJ N S y.1)∧∀ H',m5 A N H0 c S rg Pt Es g H' (RM rg N s sg)→Q (.bl (soB rg N sg)) H'
theorem ysC:∀ y∈DL.ys,(aa aM).names.lookup y=some .cell:=by
 intro y hy
 have hy:y∈(["thing","self"]:List Str):=hy
 rcases List.mem_cons.mp hy with rfl | hy
 · rfl
 · rw [List.mem_singleton.mp hy];rfl
theorem X3 {rg:Rg}{N:Nm}{y:Sy} (h:tri rg N y=none):Jm rg N y.1=none:=by
 unfold tri at h
 split at h
 · cases e:Jm rg N y.1 with
   | none=>rfl
   | some b=>rw [e] at h;cases h
 · exact h
section
variable {P:Program}{w:World}{K:W.Frag}{mg:Str→Option Value}{base:Heap}{A:cM}
theorem agP (T:Txt K mg A) (B:BMain mg base) {c0 Pt:Addr} (hc:A.aP.code=.ref c0) (hh:W.codeHdIn K c0 Pt=true):aG P w K mg base bQ 8 A.mj A.aP ["self","saying","thing"] (aub A Pt):=by
 refine aG.weak (Pt:=Pt) (q:=DL.qual) (pos:=U7) (sp:=fun vs H Q E=>∃ N H0 c S rg g s x sg,vs=[.ref g,x,.int 0]∧m5 A N H0 c S rg Pt Es g H s∧SgR A N H x sg∧(∀ y,sg=some y→N y.1.i∈s.l∧XJ N S y.1)∧((sg=none∧Q (.bl true) H)∨(sg≠none∧∀ c' H',m5 A N (upd H0 Pt (.iI (Es ++ #[.ref c']))) c S rg Pt (Es ++ #[.ref c']) g H' (RM rg N s sg)→Q (.bl (soB rg N sg)) H'))) ?_ ?_
 · refine T.Dy.okC gQ (fun vs H Q E h=>?_) (fun cdv A0 outer s H vs Q E hcd hr h=>?_)
   · obtain⟨N,H0,c,S,rg,g,s,x,sg,rfl,_⟩:=h
     rfl
   obtain⟨N,H0,c,S,rg,g,s,x,sg,rfl,hG,hS,hm,q⟩:=h
   rw [hc] at hcd
   subst hcd
   refine⟨_,(zC (zZ (zL xS (pv 1) yQ (zN _)) (zE (zK xP)) zP)
     (zC (zT (i:=3) gQ.nd rfl ‹0› (yD (CX:=bQ) (k:=7) (hr.mono (by decide)) zQ (pv 1) (zA (zO (pv 0) rfl) zD)))
     (zC (zT (i:=4) gQ.nd rfl ‹0› (Ti (Pt:=Pt) (pos:=U7) Ru rfl rfl rfl hh B ysC))
     (zC (zT (i:=5) gQ.nd rfl ‹0› (NB (D:=DL) (Pt:=Pt) (Ig:=U7) (is:=[2,0]) (k:=7) (hr.mono (by decide)) (pv 3) (zA (pv 4) zD) (fun y hy=>⟨rfl,ysC y hy⟩) (by symm) (.cons rfl (.cons rfl .nil))))
     (zC (zZ (zL xS (pv 5) yQ (zN _)) (zE (yG (yD (CX:=bQ) (k:=7) (hr.mono (by decide)) zQ (pv 0) (zA (NB (D:=DL) (Pt:=Pt) (Ig:=U7) (is:=[2,0]) (k:=7) (hr.mono (by decide)) (pv 3) (zA (pv 4) zD) (fun y hy=>⟨rfl,ysC y hy⟩) (by symm) (.cons rfl (.cons rfl .nil))) (zA (pv 2) zD))))) zP)
     (zE (zK (xF aax (pv 5) xP (zN _))))))))),?_⟩
   cases sg with
   | none =>
     have hS:x=.non:=hS
     subst hS
     rcases q with ⟨_,q⟩ | ⟨z,_⟩
     · exact⟨_,rfl,rfl,_,rfl,bA q⟩
     · exact absurd rfl z
   | some y =>
     have hS:Rt A N H false x y:=hS
     obtain⟨xa,rfl,_⟩:=id hS
     rcases q with ⟨z,_⟩ | ⟨_,q⟩
     · cases z
     have ⟨hm,hSu⟩:=hm y rfl
     have hz:=hG.cst.gs.ask y.1
     refine⟨_,rfl,rfl,_,rfl,aF ?_⟩
     obtain⟨a,C,dx,fs,M,ex,ha,hl,m1,m2⟩:=mSt (P:=P) (w:=w) (base:=base) T hS
     obtain⟨cv,hR,_⟩:=hG.rk
     obtain⟨kvs,k1,k2⟩:=hG.cst.kd
     have hT:=hG.same _ _ hG.cst.tb
     refine⟨_,rfl,a,C,dx,fs,M,ex,ha,hl,_,rfl,g,_,c.dx,gF c s.ov cv,_,rfl,hR.go,T.aC,T.ou,rfl,?_⟩
     rw [m1]
     refine m2 _ _ c.kd kvs S (hG.same _ _ k1) (k2.kq (.of hG.same)) hSu fun y2 H1 s1 hS1=>?_
     refine⟨s1 _ _ hT,fun p c' H2 np sB hT2 hp hc'=>?_⟩
     have k12:Kq H1 H2:=fun b o e po=>sB b o (by rintro rfl;rw [s1 _ _ hT] at e;cases e;exact po) e
     have G2:=(hG.mono s1).iI (fun b o nb e=>sB b o nb e) hT2
     have hS2:=hS1.kq k12
     obtain⟨a2,C2,XH,fs2,M2,e2,ha2,hl2,n1,n2⟩:=mSu (P:=P) (w:=w) (base:=base) T hS2
     refine⟨_,rfl,a2,C2,XH,fs2,M2,e2,ha2,hl2,_,rfl,c',[.int 0,.ref g],hT2,.cons rfl (.cons rfl .nil),fun H3 L=>?_⟩
     rw [n1]
     have lk:∀ {cs:List (Str × Addr)}{Ha Hb:Hp},H2 p=some (Qs DL p cs c')→cs.map (·.1)=DL.ys→aA H2 Ha→m5 A N (upd H0 Pt (.iI (Es ++ #[.ref c']))) c S rg Pt (Es ++ #[.ref c']) g Ha s→Us Ha Hb Pt c' DL.qual cs [.int 0,.ref g]→Kq Ha Hb∧O2 A Hb p S rg s.l:=fun {cs Ha Hb} hp en sa Ga L=>by
       have kk:Kq Ha Hb:=fun b o e po=>L.keep b o e (by rintro rfl;rw [sa _ _ hT2] at e;cases e;exact po) (by rintro rfl;rw [sa _ _ hc'] at e;cases e;exact po)
       obtain⟨cv',hR',_⟩:=Ga.rk
       exact⟨kk,_,g,c,s.ov,cv',⟨⟨c',kk _ _ (sa _ _ hp) trivial,L.code⟩,en,L.nd,L.cells⟩,hR'.kq kk⟩
     obtain⟨k23,L3⟩:=lk hp (by rfl) (aA.refl _) G2 L
     refine n2 H3 _ _ p S rg s.l (hS2.kq k23) L3 hz hm fun H4 s4 H5 r5=>?_
     have s25:=L.same s4 r5
     have G5:=G2.mono s25
     have hS5:=hS2.kq (.of s25)
     have q':=fun H'=>q c' H'
     dsimp only [RM,soB] at q'
     cases e:tri rg N y with
     | some b =>
       rw [e] at q'
       refine⟨_,rfl,rfl,_,rfl,aF ⟨_,rfl,some b,true,rfl,rfl,?_⟩⟩
       refine q' H5 ?_
       rw [if_neg (by intro z;cases z)]
       exact G5
     | none =>
       rw [e] at q'
       refine⟨_,rfl,rfl,_,rfl,bA ?_⟩
       obtain⟨cv5,R5,_⟩:=G5.rk
       obtain⟨a3,C3,dx3,fs3,M3,e3,ha3,hl3,o1,o2⟩:=mFo (P:=P) (w:=w) (base:=base) T hS5
       refine⟨_,rfl,g,_,c.dx,gF c s.ov cv5,JSb (Pt:=Pt) T (by decide),rfl,R5.go,rfl,_,rfl,a3,C3,dx3,fs3,M3,e3,ha3,hl3,_,rfl,c',[.int 0,.ref g],s25 _ _ hT2,.cons rfl (.cons rfl .nil),fun H6 L6=>?_⟩
       rw [o1,o2]
       obtain⟨k56,L6'⟩:=lk hp (by rfl) s25 G5 L6
       refine⟨_,N,y,p,S,rg,s.l,rfl,hS5.kq k56,L6',hz,hm,X3 e,fun b H7 s7 hb H8 r8=>?_⟩
       have s58:=L6.same s7 r8
       have hb8:HY A N H8 true b y.1:=by
         obtain⟨dx,hb⟩:=hb
         refine⟨dx,r8.new _ _ hb ?_⟩
         cases y.1 <;> (intro _ _ z;cases z)
       refine⟨_,rfl,N,_,c,S,rg,_,g,s,b,y.1,rfl,G5.mono s58,hb8,hm,fun H9 G9=>?_⟩
       refine⟨_,rfl,none,true,rfl,rfl,?_⟩
       refine q' H9 ?_
       rw [if_pos rfl]
       exact G9
 · intro vs H Q E h
   obtain⟨N,H0,c,S,rg,g,s,x,sg,rfl,hG,hS,hm,q⟩:=h
   have hT:=hG.same _ _ hG.cst.tb
   refine⟨hT,N,H0,c,S,rg,g,s,x,sg,rfl,hG,hS,hm,?_⟩
   cases sg with
   | none=>exact .inl ⟨rfl,.inr ⟨hT,q _ hG⟩⟩
   | some y =>
     refine .inr ⟨by simp,fun c' H' G'=>.inl ⟨c',G'.same _ _ zB,q _ ?_⟩⟩
     have:=G'.iI (H':=upd H' Pt (.iI Es)) (Y5:=Es) (fun b o nb e=>by rw [zI nb];exact e) zB
     rw [yH,acZ hG.cst.tb] at this
     exact this
def JSo (T:Txt K mg A) (B:BMain mg base) {c0 Pt:Addr} (hc:A.aP.code=.ref c0) (hh:W.codeHdIn K c0 Pt=true):dI P w K mg base bQ 8 A.az "is_so":=⟨_,_,_,_,[],[],T.aC,T.Hj,agP T B hc hh,T.Dz,.nil⟩
end
def X4 (s:Gs) (r:Rw):Gs:=⟨s.l++[r.nm],s.L++[gn r.nm],s.D,s.ov,s.ct⟩
def mF (rg:Rg) (N:Nm) (s:Gs) (r:Rw):Gs:=if s.ov=true then s else if soB rg N r.wn=true then X4 (RM rg N s r.wn) r else RM rg N s r.wn
def fQ (rg:Rg) (N:Nm) (s:Gs) (rs:List Rw):Gs:=rs.foldl (mF rg N) s
theorem J3 {rg:Rg}{N:Nm}{s:Gs} (h:s.ov=true):∀ rs,fQ rg N s rs=s
 | []=>rfl
 | r::rs=>by
   show fQ rg N (mF rg N s r) rs=s
   rw [show mF rg N s r=s from if_pos h]
   exact J3 h rs
theorem X5 {rg:Rg}{N:Nm}{s:Gs}{g:Sg}:(RM rg N s g).l=s.l∧(RM rg N s g).L=s.L∧(RM rg N s g).D=s.D:=by
 cases g with
 | none=>exact⟨rfl,rfl,rfl⟩
 | some y =>
   unfold RM
   dsimp only
   split <;> exact⟨rfl,rfl,rfl⟩
theorem X6 {rg:Rg}{N:Nm}{s:Gs}{r:Rw}:(mF rg N s r).l.length≤s.l.length+1∧(mF rg N s r).L.length≤s.L.length+1∧(mF rg N s r).D=s.D:=by
 obtain⟨h1,h2,h3⟩:=X5 (rg:=rg) (N:=N) (s:=s) (g:=r.wn)
 unfold mF
 split
 · exact⟨Nat.le_succ _,Nat.le_succ _,rfl⟩
 · split
   · refine⟨?_,?_,h3⟩
     · show (_++[_]).length≤_;rw [h1,List.length_append];exact Nat.le_refl _
     · show (_++[_]).length≤_;rw [h2,List.length_append];exact Nat.le_refl _
   · rw [h1,h2];exact⟨Nat.le_succ _,Nat.le_succ _,h3⟩
theorem HB {rg:Rg}{N:Nm}:∀ (rs:List Rw) (s:Gs),(fQ rg N s rs).l.length≤s.l.length+rs.length∧(fQ rg N s rs).L.length≤s.L.length+rs.length∧(fQ rg N s rs).D=s.D
 | [],s=>⟨Nat.le_refl _,Nat.le_refl _,rfl⟩
 | r::rs,s=>by
   obtain⟨h1,h2,h3⟩:=X6 (rg:=rg) (N:=N) (s:=s) (r:=r)
   obtain⟨g1,g2,g3⟩:=HB (rg:=rg) (N:=N) rs (mF rg N s r)
   simp only [List.length_cons]
   refine⟨Nat.le_trans g1 (by omega),Nat.le_trans g2 (by omega),g3.trans h3⟩
section
variable {A:cM}{N:Nm}{H0 H H2:Hp}{c:GA}{S:List qm}{rg:Rg}{Pt:Addr}{td:Array Value}{g:Addr}{s:Gs}
theorem m5.noted (h:m5 A N H0 c S rg Pt td g H s) {d t:Addr}{z:Str}{kvs X7:List (Key × V)} (a1:H c.aq=some (.dK kvs)) (ht:H t=some (.tup [.int (rg z).1,.int (rg z).2])) (n0:H0 d=none) (nd:d≠c.aq) (hd:H d=none∨∃ u,H d=some (.dK u))
   (st:∀ x o,H x=some o→x≠d→x≠c.aq→H2 x=some o) (e1:H2 c.aq=some (.dK X7)) (e2:H2 d=some (.dK [(.inl 0,.ref t)])) (v1:eF X7 (.inr z)=some (.ref d)) (v2:∀ y,y≠z→eF X7 (.inr y)=eF kvs (.inr y)) (v3:∀ y,y≠z→eF kvs (.inr y)≠some (.ref d)) (ln:X7.length≤kvs.length+1) :
   m5 A N H0 c S rg Pt td g H2 ⟨s.l++[z],s.L,s.D,s.ov,s.ct⟩:=by
 have nt:∀ {x:Addr}{o:HO},H x=some o→(∀ q,o≠.dK q)→H2 x=some o:=fun {x o} hx hn=>st x o hx (fun e=>by
   subst e
   rcases hd with e | ⟨u,e⟩
   · rw [e] at hx;cases hx
   · rw [e] at hx;cases hx;exact hn _ rfl) (yN hx a1 (hn _))
 obtain⟨kvs',a1',a2,a3⟩:=h.aq
 rw [a1] at a1';cases a1'
 obtain⟨t',t1,t2⟩:=h.lg
 obtain⟨cv,g1,g2⟩:=h.go
 have tp:∀ {x:V}{e:List V},jB H x e→jB H2 x e:=fun {x e} q=>by
   obtain⟨a,ea,q⟩:=q
   exact⟨a,ea,nt q (fun _ z=>by cases z)⟩
 refine⟨fun x o hx=>st x o (h.same _ _ hx) (zJ hx n0) (zJ hx h.Vl),h.cst,h.ng,h.Vl,h.Vm,h.XN,h.ld,⟨cv,nt g1 (fun _ z=>by cases z),?_⟩,⟨X7,e1,⟨?_,fun y hy=>?_,fun y hy=>?_⟩,fun y d' hy=>?_⟩,⟨t',nt t1 (fun _ z=>by cases z),zH t2 fun _ _=>tp⟩,nt h.db (fun _ z=>by cases z)⟩
 · cases hc:s.ct with
   | none=>rw [hc] at g2;exact g2
   | some q=>rw [hc] at g2;exact tp g2
 · have:=a2.1
   simp only [List.length_append,List.length_cons,List.length_nil]
   omega
 · by_cases e:y=z
   · subst e
     exact⟨d,t,v1,e2,nt ht (fun _ z=>by cases z)⟩
   · rcases List.mem_append.mp hy with hy | hy
     · obtain⟨d',t'',c1,c2,c3⟩:=a2.2.1 y hy
       have ne:d'≠d:=fun q=>v3 y e (by rw [← q];exact c1)
       exact⟨d',t'',by rw [v2 y e];exact c1,st _ _ c2 ne (a3 y d' c1).2.1,nt c3 (fun _ z=>by cases z)⟩
     · exact absurd (List.mem_singleton.mp hy) e
 · have e:y≠z:=fun q=>hy (List.mem_append_right _ (List.mem_singleton.mpr q))
   rw [v2 y e]
   exact a2.2.2 y fun q=>hy (List.mem_append_left _ q)
 · by_cases e:y=z
   · subst e
     rw [v1] at hy;cases hy
     refine⟨n0,nd,fun y' hy'=>?_⟩
     by_cases e:y'=y
     · exact e
     · rw [v2 y' e] at hy';exact absurd hy' (v3 y' e)
   · rw [v2 y e] at hy
     obtain⟨b1,b2,b3⟩:=a3 y d' hy
     refine⟨b1,b2,fun y' hy'=>?_⟩
     by_cases e':y'=z
     · subst e'
       rw [v1] at hy';cases hy'
       exact absurd hy (v3 y e)
     · rw [v2 y' e'] at hy';exact b3 y' hy'
end
def X8 (A:cM) (Pt:Addr):Sp:=fun vs H Q _=>∃ N H0 c S rg td g s z t,vs=[.ref g,.str z,.int 0,.ref t]∧m5 A N H0 c S rg Pt td g H s∧H t=some (.tup [.int (rg z).1,.int (rg z).2])∧s.l.length≤1000∧∀ H',m5 A N H0 c S rg Pt td g H' ⟨s.l++[z],s.L,s.D,s.ov,s.ct⟩→Q .non H'
def auf (A:cM):Sp:=fun vs H Q _=>∃ bx kd kvs S rg r,vs=[.ref bx,.ref kd,.str r.nm,.int 0]∧H kd=some (.dK kvs)∧Vk A H kvs S∧BxR H bx S rg∧iH S r∧∀ t H',aA H H'→H' t=some (.tup [.int (rg r.nm).1,.int (rg r.nm).2])→Q (.ref t) H'
def abr (A:cM) (Pt:Addr):Sp:=fun vs H Q _=>∃ N H0 c S rg td g s r,vs=[.ref g,.str r.nm,.int 0]∧m5 A N H0 c S rg Pt td g H s∧iH S r∧s.l.length≤100∧s.L.length≤100∧∀ H',m5 A N H0 c S rg Pt td g H' (X4 s r)→Q .non H'
def abt (A:cM) (Pt:Addr):Sp:=fun vs H Q _=>∃ N H0 c S rg g s x sh,vs=[.ref g,x,.int 0]∧m5 A N H0 c S rg Pt Es g H s∧ShR A N H0 x sh∧sh∈S∧s.l.length≤50∧s.L.length≤50∧(∀ (j:Nat) r y,sh.2[j]? = some r→r.wn=some y→N y.1.i∈(fQ rg N s (sh.2.take j)).l)∧∀ H',m5 A N H0 c S rg Pt Es g H' (fQ rg N s sh.2)→Q .non H'
theorem PN.fld {K:W.Frag}{mg:Str→Option Value}{A:cM} (T:Txt K mg A) {H:Hp}{k:Addr}{x:Kn} (h:PN A H k x):∃ C dk fs,H k=some (.ins C dk fs)∧De K C∧aL K C "low"∧aL K C "high"∧fs.lookup ‹"low"› = some (.int x.lo)∧fs.lookup ‹"high"› = some (.int x.hi):=by
 obtain⟨dk,q,h,_⟩:=h
 cases x with
 | yn=>exact⟨_,dk,_,h,T.qj,T.xZ,T.vd,rfl,rfl⟩
 | pk ws=>exact⟨_,dk,_,h,T.kW,T.Cz,T.yg,rfl,rfl⟩
 | nm hi=>exact⟨_,dk,_,h,T.Hh,T.ye,T.vh,rfl,rfl⟩
 | mo lo hi=>exact⟨_,dk,_,h,T.Hg,T.yd,T.vg,rfl,rfl⟩
 | wh lo hi=>exact⟨_,dk,_,h,T.Hf,T.yc,T.vf,rfl,rfl⟩
section
variable {P:Program}{w:World}{K:W.Frag}{mg:Str→Option Value}{base:Heap}{A:cM}{Pt:Addr}
theorem aay (T:Txt K mg A):aG P w K mg base bQ 1 A.nM A.nO ["self","question","thing","known"] (X8 A Pt):=by
 refine T.Gq.ok Ed (fun vs H Q E h=>?_) (fun cdv A0 outer s H vs Q E hr h=>?_)
 · obtain⟨N,H0,c,S,rg,td,g,s,z,t,rfl,_⟩:=h
   rfl
 obtain⟨N,H0,c,S,rg,td,g,s,z,t,rfl,hG,ht,hl,k⟩:=h
 refine⟨_,(zC (zZ (zL (FT (xG hr)) (pv 1) (zO (pv 0) rfl) (by rfl)) (zE (ug (xG hr) (zO (pv 0) rfl) (pv 1) p7 rfl)) zP)
     (zE (ug (xG hr) (oN (xG hr) (zO (pv 0) rfl) (pv 1) (fun _ _=>rfl)) (pv 2) (pv 3) rfl))),?_⟩
 obtain⟨kvs,a1,a2,a3⟩:=hG.aq
 obtain⟨cv,g1,g2⟩:=hG.go
 have lk:(gF c s.ov cv).lookup ‹"asked"› = some (.ref c.aq):=rfl
 refine zj (fun σ H1=>∃ kvs d u,σ=[some (.ref g),some (.str z),some (.int 0),some (.ref t)]∧H1 g=some (oGo A c s.ov cv)∧H1 c.aq=some (.dK kvs)∧eF kvs (.inr z)=some (.ref d)∧H1 d=some (.dK u)∧u.length≤1∧∀ H2,(∀ x,x≠d→H2 x=H1 x)→H2 d=some (.dK [(.inl 0,.ref t)])→(putK u (.inl 0) (.ref t)=[(.inl 0,.ref t)]∧m5 A N H0 c S rg Pt td g H2 ⟨s.l++[z],s.L,s.D,s.ov,s.ct⟩)) ?_ ?_
 · rintro σ H1 ⟨kvs,d,u,rfl,g1,a1,e1,d1,ul,kk⟩
   have g2:gr H1 c.aq (.str z) (some (.ref d)):=by
     have:=gr.k (k:=.inr z) a1
     rw [e1] at this
     exact this
   refine⟨_,rfl,_,rfl,g,_,c.dx,_,_,rfl,g1,T.aC,T.gG,lk,_,rfl,c.aq,_,rfl,g2,_,rfl,d,_,rfl,Dh.k (k:=.inl 0) d1 (yK (m:=10) (by omega)),?_⟩
   have kk1:=kk (upd H1 d (.dK [(.inl 0,.ref t)])) (fun x hx=>zI hx) zB
   rw [kk1.1]
   exact k _ kk1.2
 intro M hN
 refine⟨_,rfl,_,rfl,g,_,c.dx,_,_,rfl,g1,T.aC,T.gG,lk,c.aq,_,rfl,gr.k (k:=.inr z) a1,_,rfl,?_⟩
 by_cases hm:z∈s.l
 · obtain⟨d,t0,b2,b3,b4⟩:=a2.2.1 z hm
   rw [b2]
   obtain⟨f1,f2,f3⟩:=a3 z d b2
   refine aF (hN _ _ ⟨kvs,d,_,rfl,g1,a1,b2,b3,Nat.le_refl _,fun H2 e2 h2=>⟨by rfl,?_⟩⟩)
   exact hG.noted a1 ht f1 f2 (.inr ⟨_,b3⟩) (fun x o hx n1 n2=>by rw [e2 x n1];exact hx) (by rw [e2 _ (Ne.symm f2)];exact a1) h2 b2 (fun _ _=>rfl) (fun y hy e=>hy (f3 y e)) (Nat.le_succ _)
 · rw [a2.2.2 z hm]
   refine bA ?_
   intro d hd
   have s1:=zG hd (.dK [])
   have nda:d≠c.aq:=Ne.symm (zJ a1 hd)
   have n0:H0 d=none:=yE hG.same hd
   refine⟨_,rfl,g,_,c.dx,_,_,rfl,s1 _ _ g1,T.aC,T.gG,lk,_,rfl,c.aq,_,rfl,Dh.k (k:=.inr z) (s1 _ _ a1) (yK (m:=1000000) (by have:=a2.1;omega)),hN _ _ ?_⟩
   refine⟨putK kvs (.inr z) (.ref d),d,[],rfl,by rw [zI (yN (s1 _ _ g1) (s1 _ _ a1) (by intro z;cases z))];exact s1 _ _ g1,zB,by rw [lD,if_pos rfl],by rw [zI nda];exact zB,by decide,fun H2 e2 h2=>⟨by rfl,?_⟩⟩
   refine hG.noted a1 ht n0 nda (.inl hd) (fun x o hx n1 n2=>by rw [e2 x n1,zI n2,zI n1];exact hx) (by rw [e2 _ (Ne.symm nda)];exact zB) h2 (by rw [lD,if_pos rfl]) (fun y hy=>by rw [lD,if_neg (fun q=>hy (Sum.inr.inj q))]) (fun y hy e=>?_) (lE kvs (.inr z) (.ref d))
   by_cases hy2:y∈s.l
   · obtain⟨d',_,c1,c2,_⟩:=a2.2.1 y hy2
     rw [e] at c1;cases c1
     rw [hd] at c2;cases c2
   · rw [a2.2.2 y hy2] at e;cases e
theorem tY (T:Txt K mg A):aG P w K mg base bQ 1 A.qL A.vH ["box","kinds","question","k"] (auf A):=by
 refine T.QG.ok CK (fun vs H Q E h=>?_) (fun cdv A0 outer s H vs Q E hr h=>?_)
 · obtain⟨bx,kd,kvs,S,rg,r,rfl,_⟩:=h
   rfl
 obtain⟨bx,kd,kvs,S,rg,r,rfl,k1,k2,⟨b,b1,b2⟩,hr',q⟩:=h
 refine⟨_,(zC (zT (i:=4) CK.nd rfl ‹0› (oN (xG hr) (pv 1) (pv 2) (fun _ _=>rfl)))
     (zE (zK (Fg (xG hr) (pv 0) (yA (zA (pv 2) (zA (pv 3) zD))) (yA (zA (zO (pv 4) rfl) (zA (zO (pv 4) rfl) zD))) ⟨rfl,rfl,rfl,rfl⟩)))),?_⟩
 obtain⟨kp,k3,k4⟩:=k2 r hr'
 obtain⟨C,dk,fs,f1,f2,f3,f4,f5,f6⟩:=k4.fld T
 refine⟨_,rfl,_,rfl,kd,_,rfl,(by rw [← k3];exact gr.k (k:=.inr r.nm) k1),?_⟩
 refine⟨_,rfl,bx,rfl,.inr ⟨b,.inl b1⟩,_,rfl,_,rfl,(by show 2≤sizeLine;decide),fun t ht=>?_⟩
 have s1:=zG ht (.tup [.str r.nm,.int 0])
 have kk:=s1 _ _ f1
 refine⟨_,rfl,kp,_,dk,_,_,rfl,kk,f2,f3,f5,_,rfl,kp,_,dk,_,_,rfl,kk,f2,f4,f6,(by show 2≤sizeLine;decide),fun t2 Lz=>?_⟩
 have s2:=zG Lz (.tup [.int r.kd.lo,.int r.kd.hi])
 refine⟨_,gr.t (k:=keyOf r.nm) (s2 _ _ (s1 _ _ b1)) (s2 _ _ zB),?_⟩
 rcases b2 r hr' with ⟨u,e1,e2⟩ | ⟨e1,e2⟩
 · rw [e1]
   exact q u _ (s1.trans s2) (s2 _ _ (s1 _ _ e2))
 · rw [e1]
   refine q t2 _ (s1.trans s2) ?_
   rw [e2];exact zB
def JN (T:Txt K mg A):dI P w K mg base bQ 4 A.az "note":=⟨_,_,_,X8 A Pt,[],[],T.aC,T.Jc,(aay T).mono (by decide),T.Gr,.nil⟩
def JSt (T:Txt K mg A):dI P w K mg base bQ 4 A.az "stop_with":=⟨_,_,_,XR A Pt,[],[],T.aC,T.wD,(aaw T).mono (by decide),T.uK,.nil⟩
theorem ac1 (T:Txt K mg A):aG P w K mg base bQ 5 A.pP A.pQ ["self","question","thing"] (abr A Pt):=by
 have oG:=tY (P:=P) (w:=w) (base:=base) T
 refine T.Iu.ok Ht (fun vs H Q E h=>?_) (fun cdv A0 outer s H vs Q E hr h=>?_)
 · obtain⟨N,H0,c,S,rg,td,g,s,r,rfl,_⟩:=h
   rfl
 obtain⟨N,H0,c,S,rg,td,g,s,r,rfl,hG,hr',hl,hL,k⟩:=h
 obtain⟨ac2,e2⟩:∃ k:Nat,k=4:=⟨_,rfl⟩
 refine⟨_,(zC (yG (mC PySem.F.plainAttrs_list PySem.F.slot_list_append PySem.F.type_list_append yU (zO (pv 0) rfl) (zA (yA (zA zM (zA (pv 1) (zA (pv 2) zD)))) zD)))
     (zE (yG (yD (CX:=bQ) (k:=ac2) ‹hr› zQ (pv 0) (zA (pv 1) (zA (pv 2) (zA (zU oG ‹hr› rfl T.wj T.wg T.v9 .nil zQ (zA (zO (pv 0) rfl) (zA (zO (pv 0) rfl) (zA (pv 1) (zA (pv 2) zD))))) zD))))))),?_⟩
 subst e2
 obtain⟨ts,t1,t2⟩:=hG.lg
 obtain⟨cv,g1,g2⟩:=hG.go
 have tl:=zV t2
 refine⟨_,rfl,g,_,c.dx,gF c s.ov cv,_,rfl,g1,T.aC,T.mU,rfl,.inl ⟨rfl,_,bR.of t1⟩,_,rfl,_,rfl,(by show 3≤sizeLine;decide),fun t' ht'=>?_⟩
 have s2:=zG ht' (.tup [.str ‹"ask"›,.str r.nm,.int 0])
 refine⟨c.lg,_,_,rfl,rfl,s2 _ _ t1,yK (m:=1000000) (by omega),?_⟩
 have G2:=(hG.mono s2).app (s2 _ _ t1) (e:=gn r.nm) (t:=t') zB
 obtain⟨cv2,h1,h2⟩:=G2.go
 refine⟨_,rfl,g,_,c.dx,gF c s.ov cv2,JN T (Pt:=Pt),rfl,h1,rfl,_,rfl,_,rfl,_,rfl,g,_,c.dx,gF c s.ov cv2,_,rfl,h1,T.aC,T.ym,rfl,_,rfl,g,_,c.dx,gF c s.ov cv2,_,rfl,h1,T.aC,T.ou,rfl,_,rfl,_,rfl,?_⟩
 obtain⟨kvs,k1,k2⟩:=hG.cst.kd
 refine⟨c.bx,c.kd,kvs,S,rg,r,rfl,G2.same _ _ k1,k2.kq (.of G2.same),BxR.kq (.of G2.same) hG.cst.bx,hr',fun t H3 s3 h3=>?_⟩
 exact⟨N,H0,c,S,rg,td,g,_,r.nm,t,rfl,G2.mono s3,h3,Nat.le_trans hl (by decide),fun H' G'=>k _ G'⟩
def JPu (T:Txt K mg A):dI P w K mg base bQ 5 A.az "put":=⟨_,_,_,abr A Pt,[],[],T.aC,T.Lp,ac1 T,T.Iv,.nil⟩
variable (B:BMain mg base) {c0:Addr} (hc:A.aP.code=.ref c0) (hh:W.codeHdIn K c0 Pt=true)
include B hc hh
theorem ac3 (T:Txt K mg A):aG P w K mg base bQ 10 A.gw A.gA ["self","sheet","thing"] (abt A Pt):=by
 refine T.sV.ok jE (fun vs H Q E h=>?_) (fun cdv A0 outer s H vs Q E hr h=>?_)
 · obtain⟨N,H0,c,S,rg,g,s,x,sh,rfl,_⟩:=h
   rfl
 obtain⟨N,H0,c,S,rg,g,s,x,sh,rfl,hG,hx,hsh,hl,hL,hw0,k⟩:=h
 obtain⟨LQ,e1⟩:∃ k:Nat,k=8:=⟨_,rfl⟩
 obtain⟨k_put,e2⟩:∃ k:Nat,k=5:=⟨_,rfl⟩
 refine⟨_,(zE (xK PassesOwn.never rfl (yT (zO (pv 1) rfl)) (yP (i:=3) jE.nd rfl ‹0›) (zC (zZ (yO (zO (pv 0) rfl)) (zE Zq) zP)
     (zE (zZ (xT (yO (zW yS (by rfl) T.aH Bt.isinstance (zA (pv 3) (zA (wY rfl T.Xa) zD))))) (zE (yG Wy)) (zE (zZ (yO (yD (CX:=bQ) (k:=LQ) ‹hr› zQ (pv 0) (zA (zO (pv 3) rfl) (zA (pv 2) zD)))) (zE (yG (yD (CX:=bQ) (k:=k_put) ‹hr› zQ (pv 0) (zA (zO (pv 3) rfl) (zA (pv 2) zD))))) zP))))))),?_⟩
 subst e1 e2
 obtain⟨sa,YZ,r1,r2,rs,rfl,a1,a2,a3,a4⟩:=hx
 refine⟨_,rfl,sa,_,YZ,_,_,rfl,hG.same _ _ a1,T.iC,T.kZ,rfl,r1,rfl,⟨rs,bR.of (hG.same _ _ a2)⟩,?_⟩
 refine yV (xs:=rs) (fun j σ H'=>∃ v,σ=[some (.ref g),some (.ref sa),some (.int 0),v]∧m5 A N H0 c S rg Pt Es g H' (fQ rg N s (sh.2.take j))) ⟨_,rfl,hG⟩ (fun j σ H2 hj hw=>?_) (fun j x σ H2 hx2 hw=>?_) (fun σ H2 hw=>?_)
 · obtain⟨v,rfl,G⟩:=hw
   exact bR.of (G.same _ _ a2)
 · obtain⟨v,rfl,G⟩:=hw
   obtain⟨r,hr,hR⟩:=yF a4 hx2
   have hst:=take_snoc hr
   have hrow:fQ rg N s (sh.2.take (j+1))=mF rg N (fQ rg N s (sh.2.take j)) r:=by rw [hst];unfold fQ;rw [List.foldl_append];rfl
   have h4:(sh.2.take j).length≤4:=Nat.le_trans (by rw [List.length_take];exact Nat.min_le_right _ _) (hG.cst.gs.rows sh hsh)
   have rm:r∈sh.2:=List.mem_of_getElem? hr
   have hall:fQ rg N s sh.2=fQ rg N (fQ rg N s (sh.2.take j)) (sh.2.drop j):=by
     conv=>lhs;rw [← List.take_append_drop j sh.2]
     unfold fQ;rw [List.foldl_append]
   have hwm:=fun y=>hw0 j r y hr
   have el:(fQ rg N s (sh.2.take j)).l.length≤100∧(fQ rg N s (sh.2.take j)).L.length≤100:=by
     obtain⟨e1,e2,_⟩:=HB (rg:=rg) (N:=N) (sh.2.take j) s
     exact⟨by omega,by omega⟩
   generalize fQ rg N s (sh.2.take j)=s2 at G hrow el hall hwm
   obtain⟨cv,g1,g2⟩:=G.go
   refine⟨_,rfl,g,_,c.dx,gF c s2.ov cv,_,rfl,g1,T.aC,T.fB,rfl,_,rfl,?_⟩
   cases ho:s2.ov with
   | true =>
     rw [J3 ho] at hall
     refine bA (k _ ?_)
     rw [hall];exact G
   | false =>
     refine aF ?_
     obtain⟨ra,Y0,kp,wv,rfl,b1,b2,b3⟩:=hR
     refine⟨_,rfl,_,_,_,_,rfl,rfl,.old (T.Rm H2 ra Y0 _ (G.same _ _ b1)),T.wA,_,rfl,aF ?_⟩
     refine⟨_,rfl,g,_,c.dx,gF c s2.ov cv,JSo T B hc hh,rfl,g1,rfl,_,rfl,ra,_,Y0,_,_,rfl,G.same _ _ b1,T.tE,T.CJ,rfl,_,rfl,?_⟩
     have hrS:iH S r:=⟨sh,hsh,rm⟩
     obtain⟨r0,r01,r02,r03⟩:=hG.cst.gs.q0
     refine⟨N,H0,c,S,rg,g,s2,wv,r.wn,rfl,G,b3.kq (.of G.same),fun y ey=>⟨hwm y ey,r0,r01,r02,r03 r y hrS ey⟩,fun H3 G3=>?_⟩
     have hst:mF rg N s2 r=if soB rg N r.wn=true then X4 (RM rg N s2 r.wn) r else RM rg N s2 r.wn:=if_neg (by rw [ho];decide)
     obtain⟨z1,z2,z3⟩:=X5 (rg:=rg) (N:=N) (s:=s2) (g:=r.wn)
     generalize RM rg N s2 r.wn=s3 at G3 hst z1 z2
     refine⟨_,rfl,?_⟩
     cases hb:soB rg N r.wn with
     | true =>
       rw [if_pos hb] at hst
       obtain⟨cv3,g3,_⟩:=G3.go
       refine bA ⟨_,rfl,g,_,c.dx,gF c s3.ov cv3,JPu T (Pt:=Pt),rfl,g3,rfl,_,rfl,ra,_,Y0,_,_,rfl,G3.same _ _ b1,T.tE,T.o9,rfl,_,rfl,?_⟩
       exact⟨N,H0,c,S,rg,_,g,s3,r,rfl,G3,hrS,by rw [z1];exact el.1,by rw [z2];exact el.2,fun H' G'=>⟨_,rfl,by rw [hrow,hst];exact G'⟩⟩
     | false =>
       rw [if_neg (by rw [hb];decide)] at hst
       exact aF ⟨_,rfl,by rw [hrow,hst];exact G3⟩
 · obtain⟨v,rfl,G⟩:=hw
   rw [zV a4,List.take_length] at G
   exact k _ G
def JTr (T:Txt K mg A):dI P w K mg base bQ 10 A.az "go_through":=⟨_,_,_,abt A Pt,[],[],T.aC,T.uP,ac3 B hc hh T,T.sW,.nil⟩
end
theorem m5.rebase {A:cM}{N:Nm}{H0 H:Hp}{c:GA}{S:List qm}{rg:Rg}{Pt:Addr}{td:Array Value}{g:Addr}{s:Gs} (h:m5 A N H0 c S rg Pt td g H s) {d:Addr}{xs:List V} (hd:H d=some (.lst xs)) (n0:H0 d=none) (nl:c.lg≠d) (nd:c.db≠d):m5 A N (upd H0 d (.lst xs)) c S rg Pt td g H s:=by
 have s1:=zG n0 (.lst xs)
 have k1:Kq H0 (upd H0 d (.lst xs)):=.of s1
 obtain⟨a,a1,a2,a3⟩:=h.aq
 obtain⟨cv,g1,g2⟩:=h.go
 obtain⟨c1,⟨b,c2,c3⟩,c4,⟨k,c5,c6⟩,⟨e,c7,c8⟩,c9,c10⟩:=h.cst
 have na:c.aq≠d:=yN a1 hd (by intro z;cases z)
 refine⟨fun x u hx=>?_,⟨c1.kq k1,⟨b,s1 _ _ c2,fun r hr=>?_⟩,s1 _ _ c4,⟨k,s1 _ _ c5,c6.kq k1⟩,⟨e,s1 _ _ c7,c8⟩,s1 _ _ c9,c10⟩,?_,?_,?_,?_,h.ld,⟨cv,g1,g2⟩,⟨a,a1,a2,fun z d' hz=>?_⟩,h.lg,h.db⟩
 · by_cases e:x=d
   · subst e;rw [zB] at hx;cases hx;exact hd
   · rw [zI e] at hx;exact h.same _ _ hx
 · rcases c3 r hr with ⟨t,h1,h2⟩ | h1
   · exact .inl ⟨t,h1,s1 _ _ h2⟩
   · exact .inr h1
 · rw [zI (yN g1 hd (by intro z;cases z))];exact h.ng
 · rw [zI na];exact h.Vl
 · rw [zI nl];exact h.Vm
 · rw [zI nd];exact h.XN
 · obtain⟨f1,f2,f3⟩:=a3 z d' hz
   refine⟨?_,f2,f3⟩
   by_cases hz2:z∈s.l
   · obtain⟨d2,b2,h2,h3,_⟩:=a2.2.1 z hz2
     rw [hz] at h2;cases h2
     rw [zI (yN h3 hd (by intro z;cases z))];exact f1
   · rw [a2.2.2 z hz2] at hz;cases hz
def abu (A:cM) (Pt:Addr):Sp:=fun vs H Q _=>∃ N H0 c S rg td g s x sh,vs=[.ref g,x]∧m5 A N H0 c S rg Pt td g H s∧ShR A N H0 x sh∧∀ d H',H d=none→aA H H'→H' d=some (.lst [])→Q (.ref d) H'
def abv (A:cM) (Pt:Addr):Sp:=fun vs H Q _=>∃ N H0 c S rg td g s x sh,vs=[.ref g,x]∧m5 A N H0 c S rg Pt td g H s∧ShR A N H0 x sh∧∀ d H',H d=none→aA H H'→H' d=some (.lst [.int 0])→Q (.ref d) H'
def agR (A:cM) (Pt:Addr):Sp:=fun vs H Q _=>∃ N H0 c S rg td g s,∃ i:Nat,∃ sh:qm,vs=[.ref g,.int (i:Nat)]∧m5 A N H0 c S rg Pt td g H s∧S[i]? = some sh∧∀ H',aA H H'→Q (.int ((i+1:Nat):Int)) H'
section
variable {P:Program}{w:World}{K:W.Frag}{mg:Str→Option Value}{base:Heap}{A:cM}{Pt:Addr}
theorem ac4 (T:Txt K mg A):aG P w K mg base bQ 1 A.ir A.iu ["self","sheet"] (abv A Pt):=by
 refine T.uN.ok tQ (fun vs H Q E h=>?_) (fun cdv A0 outer s H vs Q E hr h=>?_)
 · obtain⟨N,H0,c,S,rg,td,g,s,x,sh,rfl,_⟩:=h
   rfl
 obtain⟨N,H0,c,S,rg,td,g,s,x,sh,rfl,hG,hx,k⟩:=h
 refine⟨_,(zC (zZ (zL xS (zO (pv 1) rfl) yQ (zN _)) (zE (zK (yJ (zA (zO (pv 0) rfl) zD)))) zP)
     (zC rF
     (zC rF
     (zC rF
     (zE rF))))),?_⟩
 obtain⟨sa,YZ,r1,r2,rs,rfl,a1,a2,a3,a4⟩:=hx
 obtain⟨cv,g1,_⟩:=hG.go
 refine⟨_,rfl,sa,_,YZ,_,_,rfl,hG.same _ _ a1,T.iC,T.pR,rfl,rfl,_,rfl,bA ?_⟩
 refine⟨_,rfl,g,_,c.dx,gF c s.ov cv,_,rfl,g1,T.aC,T.oh,rfl,(by show 1≤sizeLine;decide),fun d hd=>?_⟩
 exact k d _ hd (zG hd _) zB
def JTh (T:Txt K mg A):dI P w K mg base bQ 5 A.az "things_of":=⟨_,_,_,abv A Pt,[],[],T.aC,T.wC,(ac4 T).mono (by decide),T.uO,.nil⟩
theorem ac5 (T:Txt K mg A):aG P w K mg base bQ 9 A.gB A.gC ["self","sheet"] (abu A Pt):=by
 refine T.sX.ok dZ (fun vs H Q E h=>?_) (fun cdv A0 outer s H vs Q E hr h=>?_)
 · obtain⟨N,H0,c,S,rg,td,g,s,x,sh,rfl,_⟩:=h
   rfl
 obtain⟨N,H0,c,S,rg,td,g,s,x,sh,rfl,hG,hx,k⟩:=h
 obtain⟨LQ,e1⟩:∃ k:Nat,k=8:=⟨_,rfl⟩
 refine⟨_,(zC (zT (i:=2) dZ.nd rfl ‹0› (yJ zD))
     (zC (xK PassesOwn.never rfl (yT (zO (pv 1) rfl)) (Kc rfl (xN (yP (i:=3) dZ.nd rfl ‹0›) (xN (yP (i:=4) dZ.nd rfl ‹0›) Ek))) (zE (zZ (PW.pt (xI (xT (yO (zO (pv 0) rfl))) (yY (yO (yD (CX:=bQ) (k:=LQ) ‹hr› zQ (pv 0) (zA (pv 4) (zA (zO (pv 0) rfl) zD))))))) (zE (yG (mC PySem.F.plainAttrs_list PySem.F.slot_list_append PySem.F.type_list_append yU (pv 2) (zA (pv 3) zD)))) zP)))
     (zE (zK (pv 2))))),?_⟩
 subst e1
 obtain⟨sa,YZ,r1,r2,rs,rfl,a1,a2,a3,a4⟩:=hx
 refine⟨(by show 0≤sizeLine;decide),fun d hd=>?_⟩
 have s1:=zG hd (.lst [])
 refine⟨_,rfl,sa,_,YZ,_,_,rfl,s1 _ _ (hG.same _ _ a1),T.iC,T.vm,rfl,r2,rfl,⟨[],bR.of (s1 _ _ (hG.same _ _ a3))⟩,?_⟩
 refine yV (xs:=[]) (fun j σ H'=>σ=[some (.ref g),some (.ref sa),some (.ref d),none,none]∧H'=upd H d (.lst [])) ⟨rfl,rfl⟩ (fun j σ H2 hj hw=>?_) (fun j x σ H2 hx2 hw=>by simp at hx2) (fun σ H2 hw=>?_)
 · rw [hw.2];exact bR.of (s1 _ _ (hG.same _ _ a3))
 · obtain⟨rfl,rfl⟩:=hw
   exact⟨_,rfl,k d _ hd s1 zB⟩
def JTg (T:Txt K mg A):dI P w K mg base bQ 9 A.az "targets_of":=⟨_,_,_,abu A Pt,[],[],T.aC,T.uQ,ac5 T,T.sY,.nil⟩
theorem agS (T:Txt K mg A):aG P w K mg base bQ 10 A.lW A.lX ["self","place"] (agR A Pt):=by
 refine T.Dt.ok gP (fun vs H Q E h=>?_) (fun cdv A0 outer s H vs Q E hr h=>?_)
 · obtain⟨N,H0,c,S,rg,td,g,s,i,sh,rfl,_⟩:=h
   rfl
 obtain⟨N,H0,c,S,rg,td,g,s,i,sh,rfl,hG,hsh,k⟩:=h
 obtain⟨LR,e1⟩:∃ k:Nat,k=9:=⟨_,rfl⟩
 refine⟨_,(zC (zT (i:=2) gP.nd rfl ‹0› (zS bj (zO (zO (pv 0) rfl) rfl) (pv 1) (fun _ _=>rfl)))
     (zC (zT (i:=3) gP.nd rfl ‹0› (yD (CX:=bQ) (k:=LR) ‹hr› zQ (pv 0) (zA (pv 2) zD)))
     (zC (zZ (PW.pt (xI (zL SM (zW yB (by rfl) T.jC PySem.boot_len (zA (pv 3) zD)) zF (zN _)) (yY (xT (yO (zO (pv 0) rfl)))))) (zE (yG (mC PySem.F.plainAttrs_list PySem.F.slot_list_append PySem.F.type_list_append yU (zO (pv 0) rfl) (zA (zO (pv 2) rfl) zD)))) zP)
     (zC (zZ (zL yM (zW yB (by rfl) T.jC PySem.boot_len (zA (pv 3) zD)) zF (zN _)) (zE (zK (zY xE (pv 1) zF))) zP)
     (zC (zT (i:=4) gP.nd rfl ‹0› (zY V4 (Nk (xR (x:="other") (M:=["self","place","sheet","targets","names"]) rfl (by rfl)) rfl (yT (zO (zO (pv 0) rfl) rfl)) (fun _ _ _ _=>Af (by exact (zO (pv 0) rfl)) (by dsimp only [dM] <;> rfl))) (yJ (zA zM zD))))
     (zE (zK (mC PySem.F.plainAttrs_list PySem.F.slot_list_index PySem.F.type_list_index JP (pv 4) (zA (zS bj (pv 3) zF (fun _ _=>rfl)) zD))))))))),?_⟩
 subst e1
 obtain⟨dx,u,q1,q2,xs,p1,p2,p3,p4⟩:=hG.cst.pa
 obtain⟨x,hx,hS⟩:=wJ p4 hsh
 obtain⟨cv,g1,_⟩:=hG.go
 refine⟨_,rfl,g,_,c.dx,gF c s.ov cv,_,rfl,g1,T.aC,T.jw,rfl,c.pa,_,dx,_,_,rfl,hG.same _ _ p1,T.ju,T.eE,rfl,_,rfl,q1,_,_,_,rfl,rfl,bR.of (hG.same _ _ p2),zR hx,?_⟩
 refine⟨_,rfl,g,_,c.dx,gF c s.ov cv,JTg (Pt:=Pt) T,rfl,g1,rfl,_,rfl,?_⟩
 refine⟨N,H0,c,S,rg,td,g,s,x,sh,rfl,hG,hS,fun d H1 fd s1 hd=>?_⟩
 dsimp only [bU,List.set_cons_succ,List.set_cons_zero]
 refine⟨_,rfl,d,_,rfl,.inl (bR.of hd),_,_,rfl,rfl,_,rfl,aF (aF ?_)⟩
 refine⟨_,rfl,d,_,rfl,.inl (bR.of hd),rfl,_,rfl,bA ?_⟩
 exact⟨_,rfl,_,_,rfl,rfl,k _ s1⟩
def JLv (T:Txt K mg A):dI P w K mg base bQ 10 A.az "leave":=⟨_,_,_,agR A Pt,[],[],T.aC,T.Hk,agS T,T.Du,.nil⟩
end
inductive Fin (rg:Rg) (N:Nm) (S:List qm):Nat→Gs→Gs→Prop
 | over {i:Nat}{s:Gs}:s.ov=true→Fin rg N S i s s
 | done {i:Nat}{s:Gs}:s.ov=false→S.length≤i→Fin rg N S i s ⟨s.l,s.L++[Hz],s.D,true,s.ct⟩
 | step {i:Nat}{s:Gs}{sh:qm}{sf:Gs}:s.ov=false→S[i]? = some sh→Fin rg N S (i+1) (fQ rg N s sh.2) sf→Fin rg N S i s sf
theorem Yb {rg:Rg}{N:Nm}{S:List qm}{i:Nat}{s sf:Gs} (h:Fin rg N S i s sf) (ho:s.ov=true):sf=s:=by
 cases h with
 | over _=>rfl
 | done h _=>rw [ho] at h;cases h
 | step h _ _=>rw [ho] at h;cases h
def ac6 (rg:Rg) (N:Nm) (S:List qm):Prop:=∀ s,s.ov=false→∀ sh∈S,∀ (j:Nat) r y,sh.2[j]? = some r→r.wn=some y→N y.1.i∈(fQ rg N s (sh.2.take j)).l
def Y6:Gs:=⟨[],[],[],false,none⟩
def agT (A:cM) (Pt:Addr):Sp:=fun vs H Q _=>∃ N H0 c S rg g sf,vs=[.ref g]∧m5 A N H0 c S rg Pt Es g H Y6∧ac6 rg N S∧Fin rg N S 0 Y6 sf∧∀ RN H',aA H0 RN→m5 A N RN c S rg Pt Es g H' sf→Q .non H'
section
variable {P:Program}{w:World}{K:W.Frag}{mg:Str→Option Value}{base:Heap}{A:cM}{Pt:Addr}
variable (B:BMain mg base) {c0:Addr} (hc:A.aP.code=.ref c0) (hh:W.codeHdIn K c0 Pt=true)
include B hc hh
theorem agU (T:Txt K mg A):aG P w K mg base bQ 11 A.qD A.qF ["self"] (agT A Pt):=by
 refine T.KH.ok iD (fun vs H Q E h=>?_) (fun cdv A0 outer s H vs Q E hr h=>?_)
 · obtain⟨N,H0,c,S,rg,g,sf,rfl,_⟩:=h
   rfl
 obtain⟨N,H0,c,S,rg,g,sf,rfl,hG,hRw,hF,k⟩:=h
 obtain⟨O9,e1⟩:∃ k:Nat,k=5:=⟨_,rfl⟩
 obtain⟨Ma,e2⟩:∃ k:Nat,k=10:=⟨_,rfl⟩
 obtain⟨aaz,e3⟩:∃ k:Nat,k=10:=⟨_,rfl⟩
 obtain⟨Pa,e4⟩:∃ k:Nat,k=4:=⟨_,rfl⟩
 refine⟨_,(zC (zT (i:=1) iD.nd rfl ‹0› zF)
     (zC (Ab PassesOwn.never (PW.pt (xI (xT (yO (zO (pv 0) rfl))) (yY (zL oM (pv 1) (zW yB (by rfl) T.jC PySem.boot_len (zA (zO (zO (pv 0) rfl) rfl) zD)) (zN _))))) (zC (zT (i:=2) iD.nd rfl ‹0› (zS bj (zO (zO (pv 0) rfl) rfl) (pv 1) (fun _ _=>rfl)))
     (zC (xK PassesOwn.never rfl (yT (yD (CX:=bQ) (k:=O9) ‹hr› zQ (pv 0) (zA (pv 2) zD))) (yP (i:=3) iD.nd rfl ‹0›) (zE (yG (yD (CX:=bQ) (k:=Ma) ‹hr› zQ (pv 0) (zA (pv 2) (zA (pv 3) zD))))))
     (zE (zT (i:=1) iD.nd rfl ‹0› (yD (CX:=bQ) (k:=aaz) ‹hr› zQ (pv 0) (zA (pv 1) zD)))))))
     (zE (zZ (xT (yO (zO (pv 0) rfl))) (zE (yG (yD (CX:=bQ) (k:=Pa) ‹hr› zQ (pv 0) (zA (yA (zA zM zD)) zD)))) zP)))),?_⟩
 subst e1 e2 e3 e4
 have hS5:=hG.cst.gs.len
 have hGS:=hG.cst.gs
 refine⟨fun m σ H=>∃ RN s v y,∃ i:Nat,σ=[some (.ref g),some (.int (i:Nat)),v,y]∧i≤S.length∧m=S.length - i∧aA H0 RN∧m5 A N RN c S rg Pt Es g H s∧s.L.length≤4*i∧s.l.length≤4*i∧Fin rg N S i s sf,⟨_,H0,Y6,_,_,0,rfl,Nat.zero_le _,rfl,aA.refl _,hG,Nat.le_refl _,Nat.le_refl _,hF⟩,?_⟩
 rintro m σ H1 ⟨RN,s,v,y,i,rfl,hi,rfl,sH,G,hL,hl,F⟩
 obtain⟨cv,g1,_⟩:=G.go
 refine⟨_,rfl,g,_,c.dx,gF c s.ov cv,_,rfl,g1,T.aC,T.fB,rfl,_,rfl,?_⟩
 cases ho:s.ov with
 | true =>
   refine aF (aF ?_)
   refine⟨_,rfl,g,_,c.dx,gF c s.ov cv,_,rfl,g1,T.aC,T.fB,rfl,_,rfl,?_⟩
   rw [ho]
   refine aF ?_
   have e:=Yb F ho
   refine k _ _ sH ?_
   rw [e];exact G
 | false =>
   refine bA ?_
   obtain⟨dx,u,q1,q2,xs,p1,p2,p3,p4⟩:=G.cst.pa
   have lens:=zV p4
   refine⟨_,rfl,_,rfl,g,_,c.dx,gF c s.ov cv,_,rfl,g1,T.aC,T.jw,rfl,c.pa,_,dx,_,_,rfl,G.same _ _ p1,T.ju,T.eE,rfl,q1,_,rfl,.inl (bR.of (G.same _ _ p2)),_,_,rfl,rfl,_,rfl,?_⟩
   rw [lens]
   cases F with
   | over z=>rw [ho] at z;cases z
   | done _ hle =>
     refine lC (fun c1=>?_) (fun c1=>?_)
     · have:=of_decide_eq_true c1;omega
     · refine⟨_,rfl,g,_,c.dx,gF c s.ov cv,_,rfl,g1,T.aC,T.fB,rfl,_,rfl,?_⟩
       rw [ho]
       refine bA ?_
       refine⟨_,rfl,g,_,c.dx,gF c s.ov cv,JSt T (Pt:=Pt),rfl,g1,rfl,(by show 1≤sizeLine;decide),fun t ht=>?_⟩
       have s2:=zG ht (.tup Hz)
       exact⟨N,RN,c,S,rg,_,g,s,t,Hz,rfl,G.mono s2,zB,by omega,fun H' G'=>k _ _ sH G'⟩
   | @step _ _ sh _ _ hsh F =>
     have hlt:i<S.length:=(List.getElem?_eq_some_iff.mp hsh).1
     refine lC (fun c1=>?_) (fun c1=>absurd (decide_eq_true (show (i:Int)<(S.length:Nat) by omega)) c1)
     obtain⟨x,hx,hR⟩:=wJ p4 hsh
     have hmem:=List.mem_of_getElem? hsh
     have hr4:=hGS.rows sh hmem
     have hre:=HB (rg:=rg) (N:=N) sh.2 s
     generalize hs2:fQ rg N s sh.2=s2 at F hre
     refine⟨fun σ' H'=>∃ RN v y,σ'=[some (.ref g),some (.int ((i+1:Nat):Int)),v,y]∧aA H0 RN∧m5 A N RN c S rg Pt Es g H' s2,fun σ' H' z=>?_,?_⟩
     · obtain⟨RN,v,y,e,a1,a2⟩:=z
       exact⟨S.length - (i+1),by omega,RN,_,v,y,i+1,e,by omega,rfl,a1,a2,by omega,by omega,F⟩
     refine⟨_,rfl,g,_,c.dx,gF c s.ov cv,_,rfl,g1,T.aC,T.jw,rfl,c.pa,_,dx,_,_,rfl,G.same _ _ p1,T.ju,T.eE,rfl,_,rfl,q1,_,_,_,rfl,rfl,bR.of (G.same _ _ p2),zR hx,?_⟩
     refine⟨_,rfl,g,_,c.dx,gF c s.ov cv,JTh T (Pt:=Pt),rfl,g1,rfl,_,rfl,?_⟩
     refine⟨N,RN,c,S,rg,_,g,s,x,sh,rfl,G,hR,fun d H2 fd s2' hd=>?_⟩
     obtain⟨tt,tt1,_⟩:=G.lg
     have G2:=(G.mono s2').rebase hd (yE G.same fd) (zJ tt1 fd) (zJ G.db fd)
     have sB:=zG (yE G.same fd) (.lst [.int 0])
     refine⟨d,rfl,⟨_,bR.of hd⟩,?_⟩
     refine yV (xs:=[.int 0]) (fun j σ H'=>∃ v,σ=[some (.ref g),some (.int (i:Nat)),some x,v]∧m5 A N (upd RN d (.lst [.int 0])) c S rg Pt Es g H' (if j=0 then s else s2)) ⟨_,rfl,by rw [if_pos rfl];exact G2⟩ (fun j σ H3 hj hw=>?_) (fun j x' σ H3 hx3 hw=>?_) (fun σ H3 hw=>?_)
     · obtain⟨v,rfl,G3⟩:=hw
       exact bR.of (G3.same _ _ zB)
     · cases j with
       | succ j=>simp at hx3
       | zero =>
         cases hx3
         obtain⟨v,rfl,G3⟩:=hw
         rw [if_pos rfl] at G3
         obtain⟨cv3,g3,_⟩:=G3.go
         refine⟨_,rfl,g,_,c.dx,gF c s.ov cv3,JTr B hc hh T,rfl,g3,rfl,_,rfl,_,rfl,?_⟩
         refine⟨N,_,c,S,rg,g,s,x,sh,rfl,G3,hR.kq (.of sB),hmem,by omega,by omega,hRw s ho sh hmem,fun H' G4=>⟨_,rfl,?_⟩⟩
         rw [if_neg (by omega),← hs2];exact G4
     · obtain⟨v,rfl,G3⟩:=hw
       rw [if_neg (show ¬ ([V.int 0].length=0) from Nat.succ_ne_zero 0)] at G3
       obtain⟨cv3,g3,_⟩:=G3.go
       refine⟨_,rfl,g,_,c.dx,gF c s2.ov cv3,JLv (Pt:=Pt) T,rfl,g3,rfl,_,rfl,?_⟩
       exact⟨N,_,c,S,rg,_,g,s2,i,sh,rfl,G3,hsh,fun H' s4=>⟨_,_,_,rfl,sH.trans sB,G3.mono s4⟩⟩
def JGo (T:Txt K mg A):dI P w K mg base bQ 11 A.az "go":=⟨_,_,_,agT A Pt,[],[],T.aC,T.Oo,agU B hc hh T,T.KJ,.nil⟩
end
theorem Kq.of0 {H H':Hp}{g C dx:Addr} (F:Fr [g] H H') (hg:H g=some (.ins C dx [])):Kq H H':=fun b o hb ho=>F b o hb (rB fun e=>by
 rw [e,hg] at hb;cases hb;exact ho)
theorem PN.fr {A:cM}{H H':Hp}{g:Addr}{o:HO} (F:Fr [g] H H') (hg:H g=some o) (h1:∀ dk q x,o≠oKn A dk q x) (h2:∀ l,o≠.lst l) {k:Addr}{x:Kn} (h:PN A H k x):PN A H' k x:=by
 obtain⟨dk,q,a,b⟩:=h
 exact⟨dk,q,F _ _ a (rB (yN a hg fun z=>h1 _ _ _ z.symm)),fun ws e=>⟨(b ws e).1,F _ _ (b ws e).2 (rB (yN (b ws e).2 hg fun z=>h2 _ z.symm))⟩⟩
theorem Tz {A:cM}{C dx:Addr}{v:V}{fs:List (Str × V)}:∀ dk q x,HO.ins C dx (("paper",v)::fs)≠oKn A dk q x:=by
 intro dk q x z
 cases x <;> (injection z with _ _ z;exact absurd (congrArg Prod.fst (List.cons.inj z).1) (show ‹"paper"› ≠ ‹"low"› by symm))
abbrev gI (c:GA):List (Str × V):=[("paper",.ref c.pa),("alone",.int 0),("kinds",.ref c.kd),("eaches",.ref c.ed),("together",.ref c.tg),("asked",.ref c.aq),("log",.ref c.lg),("doubles",.ref c.db),("over",.bl false)]
structure New (A:cM) (H:Hp) (c:GA) (S:List qm) (H':Hp):Prop where
 kd:∃ kvs,H' c.kd=some (.dK kvs)∧Vk A H' kvs S
 ed:∃ kvs,H' c.ed=some (.dK kvs)∧EdR kvs S
 tg:H' c.tg=some (.dK [])
 Vl:H c.aq=none
 aq:H' c.aq=some (.dK [])
 Vm:H c.lg=none
 lg:H' c.lg=some (.lst [])
 XN:H c.db=none
 db:H' c.db=some (.lst [])
 ld:c.lg≠c.db
 ka:c.kd≠c.aq
 ea:c.ed≠c.aq
 ta:c.tg≠c.aq
def auk (A:cM):Sp:=fun vs H Q _=>∃ N g dx pa S,vs=[.ref g,.ref pa,.int 0]∧H g=some (.ins A.az dx [])∧PQ A N H pa S∧GS N S ∧
 ∀ (c:GA) H',c.dx=dx→c.pa=pa→Fr [g] H H'→H' g=some (.ins A.az dx (gI c))→New A H c S H'→Q .non H'
def aul (A:cM):Sp:=fun vs H Q _=>∃ N g dx pa S bx,vs=[.ref g,.ref pa,.ref bx]∧H g=some (.ins A.az dx [])∧PQ A N H pa S∧GS N S ∧
 ∀ (c:GA) H',c.pa=pa→c.bx=bx→Fr [g] H H'→H' g=some (oGo A c false .non)→New A H c S H'→Q .non H'
section
variable {P:Program}{w:World}{K:W.Frag}{mg:Str→Option Value}{base:Heap}{A:cM}
theorem ac8 (T:Txt K mg A):aG P w K mg base bQ 2 A.jV A.jW ["self","paper","alone"] (auk A):=by
 have oH:=tW (P:=P) (w:=w) (base:=base) T
 have tZ:=zm (P:=P) (w:=w) (base:=base) T
 have HD:=Eg (P:=P) (w:=w) (base:=base) T
 refine T.Bb.ok yz (fun vs H Q E h=>?_) (fun cdv A0 outer s H vs Q E hr h=>?_)
 · obtain⟨N,g,dx,pa,S,rfl,_⟩:=h
   rfl
 obtain⟨N,g,dx,pa,S,rfl,hg,hP,hQ,k⟩:=h
 refine⟨_,(zC (yI (pv 0) (pv 1) rfl)
     (zC (yI (pv 0) (pv 2) rfl)
     (zC (yI (pv 0) (zU oH ‹hr› rfl T.vX T.vW T.vV .nil zQ (zA (pv 1) zD)) rfl)
     (zC (yI (pv 0) (zU tZ ‹hr› rfl T.Cu T.Cr T.Cq .nil zQ (zA (pv 1) zD)) rfl)
     (zC (yI (pv 0) (zU HD ‹hr› rfl T.Gp T.Gn T.Gm .nil zQ (zA (pv 1) zD)) rfl)
     (zC (yI (pv 0) p7 rfl)
     (zC (yI (pv 0) (yJ zD) rfl)
     (zC (yI (pv 0) (yJ zD) rfl)
     (zE (yI (pv 0) xP rfl)))))))))),?_⟩
 have cl:=T.aC
 have st:∀ {Ha:Hp}{o:HO},Fr [g] Ha (upd Ha g o):=fun {Ha o}=>(Fr.of (aA.refl _)).upd (List.mem_singleton.mpr rfl) o
 refine⟨_,rfl,_,rfl,g,_,dx,_,rfl,hg,cl,T.jw,by decide,?_⟩
 refine⟨_,rfl,_,rfl,g,_,dx,_,rfl,zB,cl,T.oh,(by show 1<1000;decide),?_⟩
 rw [yH]
 refine (show (∀ H1,Fr [g] H H1→H1 g=some (.ins A.az dx [("paper",.ref pa),("alone",.int 0)])→_)→_ from fun z=>z (upd H g (.ins A.az dx [("paper",.ref pa),("alone",.int 0)])) st zB) ?_
 intro H1 F1 g1
 have F01:Fr [g] H H1:=F1
 refine⟨_,rfl,N,pa,S,rfl,hP.kq (Kq.of0 F01 hg),hQ,fun kd kvs H2 fk s2 hk hK=>?_⟩
 have nkd:kd≠g:=Ne.symm (zJ g1 fk)
 refine⟨_,rfl,g,_,dx,_,rfl,s2 _ _ g1,cl,T.ou,(by show 2<1000;decide),?_⟩
 refine (show (∀ H3,Fr [g] H2 H3→H3 g=some (.ins A.az dx [("paper",.ref pa),("alone",.int 0),("kinds",.ref kd)])→_)→_ from fun z=>z (upd H2 g (.ins A.az dx [("paper",.ref pa),("alone",.int 0),("kinds",.ref kd)])) st zB) ?_
 intro H3 F3 g3
 have F03:Fr [g] H H3:=(F01.trans (Fr.of s2)).trans F3
 refine⟨_,rfl,N,pa,S,rfl,hP.kq (Kq.of0 F03 hg),hQ,fun ed kv2 H4 fe s4 he hE=>?_⟩
 have ned:ed≠g:=Ne.symm (zJ g3 fe)
 refine⟨_,rfl,g,_,dx,_,rfl,s4 _ _ g3,cl,T.rJ,(by show 3<1000;decide),?_⟩
 refine (show (∀ H5,Fr [g] H4 H5→H5 g=some (.ins A.az dx [("paper",.ref pa),("alone",.int 0),("kinds",.ref kd),("eaches",.ref ed)])→_)→_ from fun z=>z (upd H4 g (.ins A.az dx [("paper",.ref pa),("alone",.int 0),("kinds",.ref kd),("eaches",.ref ed)])) st zB) ?_
 intro H5 F5 g5
 have F05:Fr [g] H H5:=(F03.trans (Fr.of s4)).trans F5
 refine⟨_,rfl,N,pa,S,rfl,hP.kq (Kq.of0 F05 hg),fun tg H6 ft s6 ht=>?_⟩
 have ntg:tg≠g:=Ne.symm (zJ g5 ft)
 refine⟨_,rfl,g,_,dx,_,rfl,s6 _ _ g5,cl,T.jx,(by show 4<1000;decide),?_⟩
 refine (show (∀ H7,Fr [g] H6 H7→H7 g=some (.ins A.az dx [("paper",.ref pa),("alone",.int 0),("kinds",.ref kd),("eaches",.ref ed),("together",.ref tg)])→_)→_ from fun z=>z (upd H6 g (.ins A.az dx [("paper",.ref pa),("alone",.int 0),("kinds",.ref kd),("eaches",.ref ed),("together",.ref tg)])) st zB) ?_
 intro H7 F7 g7
 intro aq ha
 have s8:=zG ha (.dK [])
 have Vl:aq≠g:=Ne.symm (zJ g7 ha)
 have a8:(upd H7 aq (.dK [])) aq=some (.dK []):=zB
 generalize upd H7 aq (HO.dK [])=H8 at s8 a8 ⊢
 refine⟨_,rfl,g,_,dx,_,rfl,s8 _ _ g7,cl,T.gG,(by show 5<1000;decide),?_⟩
 refine (show (∀ H9,Fr [g] H8 H9→H9 g=some (.ins A.az dx [("paper",.ref pa),("alone",.int 0),("kinds",.ref kd),("eaches",.ref ed),("together",.ref tg),("asked",.ref aq)])→_)→_ from fun z=>z (upd H8 g (.ins A.az dx [("paper",.ref pa),("alone",.int 0),("kinds",.ref kd),("eaches",.ref ed),("together",.ref tg),("asked",.ref aq)])) st zB) ?_
 intro H9 F9 g9
 refine⟨(by show 0≤sizeLine;decide),fun lg hl=>?_⟩
 have s10:=zG hl (.lst [])
 have Vm:lg≠g:=Ne.symm (zJ g9 hl)
 have l10:(upd H9 lg (.lst [])) lg=some (.lst []):=zB
 generalize upd H9 lg (HO.lst [])=H10 at s10 l10 ⊢
 refine⟨_,rfl,g,_,dx,_,rfl,s10 _ _ g9,cl,T.mU,(by show 6<1000;decide),?_⟩
 refine (show (∀ H11,Fr [g] H10 H11→H11 g=some (.ins A.az dx [("paper",.ref pa),("alone",.int 0),("kinds",.ref kd),("eaches",.ref ed),("together",.ref tg),("asked",.ref aq),("log",.ref lg)])→_)→_ from fun z=>z (upd H10 g (.ins A.az dx [("paper",.ref pa),("alone",.int 0),("kinds",.ref kd),("eaches",.ref ed),("together",.ref tg),("asked",.ref aq),("log",.ref lg)])) st zB) ?_
 intro H11 F11 g11
 refine⟨(by show 0≤sizeLine;decide),fun db hdb=>?_⟩
 have s12:=zG hdb (.lst [])
 have XN:db≠g:=Ne.symm (zJ g11 hdb)
 have d12:(upd H11 db (.lst [])) db=some (.lst []):=zB
 generalize upd H11 db (HO.lst [])=H12 at s12 d12 ⊢
 refine⟨_,rfl,g,_,dx,_,rfl,s12 _ _ g11,cl,T.ql,(by show 7<1000;decide),?_⟩
 refine (show (∀ Yc,Fr [g] H12 Yc→Yc g=some (.ins A.az dx [("paper",.ref pa),("alone",.int 0),("kinds",.ref kd),("eaches",.ref ed),("together",.ref tg),("asked",.ref aq),("log",.ref lg),("doubles",.ref db)])→_)→_ from fun z=>z (upd H12 g (.ins A.az dx [("paper",.ref pa),("alone",.int 0),("kinds",.ref kd),("eaches",.ref ed),("together",.ref tg),("asked",.ref aq),("log",.ref lg),("doubles",.ref db)])) st zB) ?_
 intro Yc F13 g13
 refine⟨_,rfl,g,_,dx,_,rfl,g13,cl,T.fB,(by show 8<1000;decide),?_⟩
 have F14:Fr [g] Yc (upd Yc g (.ins A.az dx [("paper",.ref pa),("alone",.int 0),("kinds",.ref kd),("eaches",.ref ed),("together",.ref tg),("asked",.ref aq),("log",.ref lg),("doubles",.ref db),("over",.bl false)])):=st
 have Yd:Fr [g] H7 (upd Yc g (.ins A.az dx [("paper",.ref pa),("alone",.int 0),("kinds",.ref kd),("eaches",.ref ed),("together",.ref tg),("asked",.ref aq),("log",.ref lg),("doubles",.ref db),("over",.bl false)])):=((((((Fr.of s8).trans F9).trans (Fr.of s10)).trans F11).trans (Fr.of s12)).trans F13).trans F14
 have aun:=((((Fr.of s4).trans F5).trans (Fr.of s6)).trans F7).trans Yd
 have F07:Fr [g] H H7:=(F05.trans (Fr.of s6)).trans F7
 have auo:Fr [g] H9 (upd Yc g (.ins A.az dx [("paper",.ref pa),("alone",.int 0),("kinds",.ref kd),("eaches",.ref ed),("together",.ref tg),("asked",.ref aq),("log",.ref lg),("doubles",.ref db),("over",.bl false)])):=((((Fr.of s10).trans F11).trans (Fr.of s12)).trans F13).trans F14
 have agX:Fr [g] H11 (upd Yc g (.ins A.az dx [("paper",.ref pa),("alone",.int 0),("kinds",.ref kd),("eaches",.ref ed),("together",.ref tg),("asked",.ref aq),("log",.ref lg),("doubles",.ref db),("over",.bl false)])):=((Fr.of s12).trans F13).trans F14
 have kd7:H7 kd=some (.dK kvs):=F7 _ _ (s6 _ _ (F5 _ _ (s4 _ _ (F3 _ _ hk (rB nkd))) (rB nkd))) (rB nkd)
 have ed7:H7 ed=some (.dK kv2):=F7 _ _ (s6 _ _ (F5 _ _ he (rB ned))) (rB ned)
 have tg7:H7 tg=some (.dK []):=F7 _ _ ht (rB ntg)
 have hall:=F07.trans Yd
 have lgF:H11 lg=some (.lst []):=F11 _ _ l10 (rB Vm)
 refine k ⟨dx,pa,kd,ed,tg,aq,lg,db,pa⟩ _ rfl rfl hall zB ⟨⟨kvs,Yd _ _ kd7 (rB nkd),fun z hz=>?_⟩,⟨kv2,Yd _ _ ed7 (rB ned),hE⟩,Yd _ _ tg7 (rB ntg),Lw F07 (rB Vl) ha,auo _ _ (F9 _ _ a8 (rB Vl)) (rB Vl),Lw (F07.trans ((Fr.of s8).trans F9)) (rB Vm) hl,agX _ _ lgF (rB Vm),Lw (((F07.trans ((Fr.of s8).trans F9)).trans (Fr.of s10)).trans F11) (rB XN) hdb,F14 _ _ (F13 _ _ d12 (rB XN)) (rB XN),zJ lgF hdb,zJ kd7 ha,zJ ed7 ha,zJ tg7 ha⟩
 obtain⟨kp,k1,k2⟩:=hK z hz
 exact⟨kp,k1,((k2.kq (.of s2)).fr F3 (s2 _ _ g1) Tz (by intro l z;cases z)).fr aun g3 Tz (by intro l z;cases z)⟩
theorem agY (T:Txt K mg A):aG P w K mg base bQ 4 A.jZ A.j4 ["self","paper","box"] (aul A):=by
 have BL:=ac8 (P:=P) (w:=w) (base:=base) T
 refine T.Bf.ok zc (fun vs H Q E h=>?_) (fun cdv A0 outer s H vs Q E hr h=>?_)
 · obtain⟨N,g,dx,pa,S,bx,rfl,_⟩:=h
   rfl
 obtain⟨N,g,dx,pa,S,bx,rfl,hg,hP,hQ,k⟩:=h
 refine⟨_,(zC (yG (rZ T.Je BL ‹hr› rfl T.Z8 T.Bc zQ (zA (pv 0) (zA (pv 1) (zA zF zD)))))
     (zC (yI (pv 0) (pv 2) rfl)
     (zE (yI (pv 0) yQ rfl)))),?_⟩
 refine⟨_,rfl,_,rfl,N,g,dx,pa,S,rfl,hg,hP,hQ,fun c H1 e1 e2 F1 h1 Nw=>?_⟩
 subst e1 e2
 refine⟨_,rfl,_,rfl,g,_,c.dx,_,rfl,h1,T.aC,T.ym,(by show 9<1000;decide),?_⟩
 refine⟨_,rfl,g,_,c.dx,_,rfl,zB,T.aC,T.gO,(by show 10<1000;decide),?_⟩
 rw [yH]
 have F2:Fr [g] H1 (upd H1 g (oGo A { c with bx:=bx } false .non)):=(Fr.of (aA.refl _)).upd (List.mem_singleton.mpr rfl) _
 have nn:∀ {x:Addr}{o:HO},H1 x=some o→(∀ C dx fs,o≠.ins C dx fs)→(upd H1 g (oGo A { c with bx:=bx } false .non)) x=some o:=fun {x o} hx hn=>F2 _ _ hx (rB (yN hx h1 (hn _ _ _)))
 obtain⟨⟨kv,n1,n2⟩,⟨kv2,n3,n4⟩,n5,n6,n7,n8,n9,n10,n11,n12,n13,n14,n15⟩:=Nw
 refine k { c with bx:=bx } _ rfl rfl (F1.trans F2) zB ⟨⟨kv,nn n1 (fun _ _ _ z=>by cases z),fun z hz=>?_⟩,⟨kv2,nn n3 (fun _ _ _ z=>by cases z),n4⟩,nn n5 (fun _ _ _ z=>by cases z),n6,nn n7 (fun _ _ _ z=>by cases z),n8,nn n9 (fun _ _ _ z=>by cases z),n10,nn n11 (fun _ _ _ z=>by cases z),n12,n13,n14,n15⟩
 obtain⟨kp,k1,k2⟩:=n2 z hz
 exact⟨kp,k1,k2.fr F2 h1 Tz (by intro l z;cases z)⟩
def RsR (F:Addr→Prop) (H:Hp) (x:V) (sf:Gs):Prop:=∃ p lg db ts cv,x=.ref p∧F lg∧F db∧lg≠db∧H p=some (.tup [.bl (decide (sf.ct=none)),.ref lg,.ref db,cv])∧H lg=some (.lst ts)∧Paired (jB H) ts sf.L∧H db=some (.lst (sf.D.map V.str))∧XM H cv sf.ct
def aup (A:cM) (Pt:Addr):Sp:=fun vs H Q _=>∃ N pa bx S rg sf,vs=[.ref pa,.ref bx]∧PQ A N H pa S∧GS N S∧BxR H bx S rg∧H Pt=some (.iI Es)∧ac6 rg N S∧Fin rg N S 0 Y6 sf∧∀ x H',aA H H'→RsR (fun a=>H a=none) H' x sf→Q x H'
variable {Pt:Addr} (B:BMain mg base) {c0:Addr} (hc:A.aP.code=.ref c0) (hh:W.codeHdIn K c0 Pt=true)
include B hc hh
theorem ag0 (T:Txt K mg A):aG P w K mg base bQ 12 A.qM A.vI ["paper","box"] (aup A Pt):=by
 have BP:=agY (P:=P) (w:=w) (base:=base) T
 refine T.QH.ok CN (fun vs H Q E h=>?_) (fun cdv A0 outer s H vs Q E hr h=>?_)
 · obtain⟨N,pa,bx,S,rg,sf,rfl,_⟩:=h
   rfl
 obtain⟨N,pa,bx,S,rg,sf,rfl,hP,hQ,⟨b,hb,hB⟩,hT,hRw,hF,k⟩:=h
 obtain⟨k_go,e1⟩:∃ k:Nat,k=11:=⟨_,rfl⟩
 refine⟨_,(zC (zT (i:=2) CN.nd rfl ‹0› (xA T.Xm BP ‹hr› rfl T.Z7 T.Bg .nil zQ (zA (pv 0) (zA (pv 1) zD))))
     (zC (yG (Ae (CX:=bQ) (k:=k_go) ‹hr› zQ (pv 2)))
     (zE (zK (yA (zA (xF xS (zO (pv 2) rfl) yQ (zN _)) (zA (zO (pv 2) rfl) (zA (zO (pv 2) rfl) (zA (zO (pv 2) rfl) zD))))))))),?_⟩
 subst e1
 refine⟨_,rfl,_,rfl,fun g dx ng ndx ne=>?_⟩
 have s1:=yC ng ndx (.ins A.az dx [])
 have hg1:(upd (upd H dx (.own g)) g (.ins A.az dx [])) g=some (.ins A.az dx []):=zB
 generalize upd (upd H dx (.own g)) g (.ins A.az dx [])=H1 at s1 hg1 ⊢
 refine⟨N,g,dx,pa,S,bx,rfl,hg1,hP.kq (.of s1),hQ,fun c H2 h2 h3 F h1 Nw=>⟨rfl,?_⟩⟩
 subst h2 h3
 have sH:aA H H2:=fun x u hx=>F _ _ (s1 _ _ hx) (rB (zJ hx ng))
 obtain⟨⟨kv,n1,n2⟩,⟨kv2,n3,n4⟩,n5,n6,n7,n8,n9,n10,n11,n12,n13,n14,n15⟩:=Nw
 have m1:=yE s1 n6
 have m2:=yE s1 n8
 have m3:=yE s1 n10
 generalize hH0:dels H2 [g,c.aq,c.lg,c.db]=H0
 have in0:∀ {x:Addr},x≠g→x≠c.aq→x≠c.lg→x≠c.db→H0 x=H2 x:=fun {x} a1 a2 a3 a4=>by
   rw [← hH0,xC]
   intro z
   simp only [List.mem_cons,List.not_mem_nil,or_false] at z
   rcases z with z | z | z | z
   · exact a1 z
   · exact a2 z
   · exact a3 z
   · exact a4 z
 have Ye:∀ {x:Addr},x∈[g,c.aq,c.lg,c.db]→H0 x=none:=fun {x} z=>by rw [← hH0];exact uo z
 have Yg:aA H H0:=fun x u hx=>by
   rw [in0 (zJ hx ng) (zJ hx m1) (zJ hx m2) (zJ hx m3)];exact sH _ _ hx
 have keep:∀ {x:Addr}{o:HO},H2 x=some o→x≠g→x≠c.aq→(∀ q,o≠.lst q)→H0 x=some o:=fun {x o} hx a1 a2 hn=>by
   rw [in0 a1 a2 (yN hx n9 (hn _)) (yN hx n11 (hn _))];exact hx
 have dg:∀ {x:Addr}{q:List (Key × V)},H2 x=some (.dK q)→x≠g:=fun {x q} hx=>yN hx h1 (by intro z;cases z)
 have s02:aA H0 H2:=fun x u hx=>by
   by_cases e:x∈[g,c.aq,c.lg,c.db]
   · rw [Ye e] at hx;cases hx
   · rw [← hH0,xC e] at hx;exact hx
 have G0:m5 A N H0 c S rg Pt Es g H2 Y6:=by
   refine⟨s02,⟨hP.kq (.of Yg),⟨b,Yg _ _ hb,fun r hr=>?_⟩,Yg _ _ hT,⟨kv,keep n1 (dg n1) n13 (fun _ z=>by cases z),fun z hz=>?_⟩,⟨kv2,keep n3 (dg n3) n14 (fun _ z=>by cases z),n4⟩,keep n5 (dg n5) n15 (fun _ z=>by cases z),hQ⟩,Ye (by simp),Ye (by simp),Ye (by simp),Ye (by simp),n12,⟨.non,h1,rfl⟩,⟨[],n7,⟨Nat.le_refl _,(fun z hz=>by cases hz),fun _ _=>rfl⟩,(fun z d hz=>by cases hz)⟩,⟨[],n9,.nil⟩,n11⟩
   · rcases hB r hr with ⟨t,e1,e2⟩ | e1
     · exact .inl ⟨t,e1,Yg _ _ e2⟩
     · exact .inr e1
   · obtain⟨kp,k1,dk,q',k2,k3⟩:=n2 z hz
     have nl:∀ (l:List V),HO.lst l≠oKn A dk q' z.kd:=by intro l e;cases hk:z.kd <;> (rw [hk] at e;cases e)
     have nd:∀ (l:List (Key × V)),HO.dK l≠oKn A dk q' z.kd:=by intro l e;cases hk:z.kd <;> (rw [hk] at e;cases e)
     refine⟨kp,k1,dk,q',keep k2 (yN k2 h1 (fun z=>Tz _ _ _ z.symm)) (yN k2 n7 (fun z=>nd _ z.symm)) (fun _ z=>nl _ z.symm),fun ws e=>⟨(k3 ws e).1,?_⟩⟩
     obtain⟨k4,k5⟩:=k3 ws e
     have ne:∀ {b:Addr},H2 b=some (.lst [])→q'≠b:=fun {b} hb=>yN k5 hb (fun z=>k4 (by injection z with z;exact List.map_eq_nil_iff.mp z))
     rw [in0 (yN k5 h1 (by intro z;cases z)) (yN k5 n7 (by intro z;cases z)) (ne n9) (ne n11)];exact k5
 refine⟨_,rfl,g,_,c.dx,gF c false .non,JGo B hc hh T,rfl,h1,rfl,?_⟩
 refine⟨N,H0,c,S,rg,g,sf,rfl,G0,hRw,hF,fun RN H3 s3 G3=>?_⟩
 obtain⟨cv,g3,c3⟩:=G3.go
 refine⟨_,rfl,g,_,c.dx,gF c sf.ov cv,_,rfl,g3,T.aC,T.gO,rfl,rfl,?_⟩
 refine⟨_,rfl,g,_,c.dx,gF c sf.ov cv,_,rfl,g3,T.aC,T.mU,rfl,_,rfl,g,_,c.dx,gF c sf.ov cv,_,rfl,g3,T.aC,T.ql,rfl,_,rfl,g,_,c.dx,gF c sf.ov cv,_,rfl,g3,T.aC,T.gO,rfl,(by show 4≤sizeLine;decide),fun p hp=>?_⟩
 have s4:=zG hp (.tup [.bl (decide (cv=.non)),.ref c.lg,.ref c.db,cv])
 have G4:=G3.mono s4
 obtain⟨ts,t1,t2⟩:=G4.lg
 have ec:decide (cv=V.non)=decide (sf.ct=none):=by
   cases hct:sf.ct with
   | none=>rw [hct] at c3;rw [show cv=V.non from c3];rfl
   | some q =>
     rw [hct] at c3
     obtain⟨a,rfl,_⟩:=(show jB H3 cv _ from c3)
     rfl
 refine k (.ref p) _ (((Yg.trans s3).trans G3.same).trans s4) ⟨p,c.lg,c.db,ts,cv,rfl,m2,m3,n12,?_,t1,t2,G4.db,c3.kq (.of s4)⟩
 rw [← ec];exact zB
end
inductive Tr where
 | leaf (v:V)
 | lst (l:List Tr)
 | tup (l:List Tr)
def mG:V→Prop
 | .non=>True
 | .bl _=>True
 | .int _=>True
 | .str _=>True
 | _=>False
def fG (F:Addr→Prop) (H:Hp):Nat→V→Tr→Prop
 | _,x,.leaf v=>x=v∧mG v
 | 0,_,_=>False
 | n+1,x,.lst l=>∃ a xs,x=.ref a∧H a=some (.lst xs)∧xs.length≤1000∧Paired (fG F H n) xs l∧F a
 | n+1,x,.tup l=>∃ a xs,x=.ref a∧H a=some (.tup xs)∧xs.length≤1000∧Paired (fG F H n) xs l
theorem fG.same {F:Addr→Prop}{H H':Hp} (s:aA H H'):∀ {n:Nat}{x:V}{t:Tr},fG F H n x t→fG F H' n x t
 | 0,_,.leaf _,h=>h
 | _+1,_,.leaf _,h=>h
 | 0,_,.lst _,h=>h.elim
 | 0,_,.tup _,h=>h.elim
 | n+1,_,.lst _,⟨a,xs,e,h1,h2,h3,h4⟩=>⟨a,xs,e,s _ _ h1,h2,zH h3 fun _ _=>fG.same s,h4⟩
 | n+1,_,.tup _,⟨a,xs,e,h1,h2,h3⟩=>⟨a,xs,e,s _ _ h1,h2,zH h3 fun _ _=>fG.same s⟩
theorem fG.weak {F G:Addr→Prop}{H:Hp} (f:∀ a,F a→G a):∀ {n:Nat}{x:V}{t:Tr},fG F H n x t→fG G H n x t
 | 0,_,.leaf _,h=>h
 | _+1,_,.leaf _,h=>h
 | 0,_,.lst _,h=>h.elim
 | 0,_,.tup _,h=>h.elim
 | n+1,_,.lst _,⟨a,xs,e,h1,h2,h3,h4⟩=>⟨a,xs,e,h1,h2,zH h3 fun _ _=>fG.weak f,f _ h4⟩
 | n+1,_,.tup _,⟨a,xs,e,h1,h2,h3⟩=>⟨a,xs,e,h1,h2,zH h3 fun _ _=>fG.weak f⟩
theorem fG.upd {F:Addr→Prop}{H:Hp}{m:Addr}{l0:List V}{o:HO} (hm:H m=some (.lst l0)) (hF:¬ F m):∀ {n:Nat}{x:V}{t:Tr},fG F H n x t→fG F (L2.upd H m o) n x t
 | 0,_,.leaf _,h=>h
 | _+1,_,.leaf _,h=>h
 | 0,_,.lst _,h=>h.elim
 | 0,_,.tup _,h=>h.elim
 | n+1,_,.lst _,⟨a,xs,e,h1,h2,h3,h4⟩=>⟨a,xs,e,(zI (show a≠m from fun z=>hF (by rw [← z];exact h4))).trans h1,h2,zH h3 fun _ _=>fG.upd hm hF,h4⟩
 | n+1,_,.tup _,⟨a,xs,e,h1,h2,h3⟩=>⟨a,xs,e,(zI (yN h1 hm (fun z=>nomatch z))).trans h1,h2,zH h3 fun _ _=>fG.upd hm hF⟩
def Yh (K:W.Frag) (H:Hp) (a:Addr) (xs:List V):Prop:=H a=some (.tup xs)∨∃ (o:Obj) (its:Array Value) (n:Nat),K.lookup a=some o∧o.cls=.type "tuple"∧o.data=.seq its n∧its.size≤sizeLine∧Vals xs its.toList
theorem Yh.sq {K:W.Frag}{H:Hp}{a:Addr}{xs:List V} (h:Yh K H a xs):dH K H a xs:=by
 rcases h with h | h
 · exact .inl (.inl h)
 · exact .inr h
theorem Yh.kq {K:W.Frag}{H H':Hp} (f:Kq H H') {a:Addr}{xs:List V} (h:Yh K H a xs):Yh K H' a xs:=by
 rcases h with h | h
 · exact .inl (f _ _ h trivial)
 · exact .inr h
theorem Yh.own {K:W.Frag}{a:Addr}{xs:List V} (h:∀ H,dH K H a xs) (H:Hp):Yh K H a xs:=by
 rcases h (fun _=>none) with (h | ⟨o,h⟩) | h
 · cases h
 · cases h
 · exact .inr h
def mH (K:W.Frag) (H:Hp):Nat→V→Tr→Prop
 | _,x,.leaf v=>x=v∧mG v
 | 0,_,_=>False
 | n+1,x,.lst l=>∃ a xs,x=.ref a∧H a=some (.lst xs)∧xs.length≤1000∧Paired (mH K H n) xs l
 | n+1,x,.tup l=>∃ a xs,x=.ref a∧Yh K H a xs∧xs.length≤1000∧Paired (mH K H n) xs l
theorem fG.r {K:W.Frag}{F:Addr→Prop}{H:Hp}:∀ {n:Nat}{x:V}{t:Tr},fG F H n x t→mH K H n x t
 | 0,_,.leaf _,h=>h
 | _+1,_,.leaf _,h=>h
 | 0,_,.lst _,h=>h.elim
 | 0,_,.tup _,h=>h.elim
 | n+1,_,.lst _,⟨a,xs,e,h1,h2,h3,h4⟩=>⟨a,xs,e,h1,h2,zH h3 fun _ _=>fG.r⟩
 | n+1,_,.tup _,⟨a,xs,e,h1,h2,h3⟩=>⟨a,xs,e,.inl h1,h2,zH h3 fun _ _=>fG.r⟩
theorem mH.kq {K:W.Frag}{H H':Hp} (s:Kq H H'):∀ {n:Nat}{x:V}{t:Tr},mH K H n x t→mH K H' n x t
 | 0,_,.leaf _,h=>h
 | _+1,_,.leaf _,h=>h
 | 0,_,.lst _,h=>h.elim
 | 0,_,.tup _,h=>h.elim
 | n+1,_,.lst _,⟨a,xs,e,h1,h2,h3⟩=>⟨a,xs,e,s _ _ h1 trivial,h2,zH h3 fun _ _=>mH.kq s⟩
 | n+1,_,.tup _,⟨a,xs,e,h1,h2,h3⟩=>⟨a,xs,e,h1.kq s,h2,zH h3 fun _ _=>mH.kq s⟩
theorem mH.same {K:W.Frag}{H H':Hp} (s:aA H H') {n:Nat}{x:V}{t:Tr} (h:mH K H n x t):mH K H' n x t:=mH.kq (.of s) h
theorem mH.up {K:W.Frag}{H:Hp}:∀ {n:Nat}{x:V}{t:Tr},mH K H n x t→mH K H (n+1) x t
 | 0,_,.leaf _,h=>h
 | _+1,_,.leaf _,h=>h
 | 0,_,.lst _,h=>h.elim
 | 0,_,.tup _,h=>h.elim
 | n+1,_,.lst _,⟨a,xs,e,h1,h2,h3⟩=>⟨a,xs,e,h1,h2,zH h3 fun _ _=>mH.up⟩
 | n+1,_,.tup _,⟨a,xs,e,h1,h2,h3⟩=>⟨a,xs,e,h1,h2,zH h3 fun _ _=>mH.up⟩
theorem fG.kq {F:Addr→Prop}{H H':Hp} (s:Kq H H'):∀ {n:Nat}{x:V}{t:Tr},fG F H n x t→fG F H' n x t
 | 0,_,.leaf _,h=>h
 | _+1,_,.leaf _,h=>h
 | 0,_,.lst _,h=>h.elim
 | 0,_,.tup _,h=>h.elim
 | n+1,_,.lst _,⟨a,xs,e,h1,h2,h3,h4⟩=>⟨a,xs,e,s _ _ h1 trivial,h2,zH h3 fun _ _=>fG.kq s,h4⟩
 | n+1,_,.tup _,⟨a,xs,e,h1,h2,h3⟩=>⟨a,xs,e,s _ _ h1 trivial,h2,zH h3 fun _ _=>fG.kq s⟩
theorem fG.up {F:Addr→Prop}{H:Hp}:∀ {n:Nat}{x:V}{t:Tr},fG F H n x t→fG F H (n+1) x t
 | 0,_,.leaf _,h=>h
 | _+1,_,.leaf _,h=>h
 | 0,_,.lst _,h=>h.elim
 | 0,_,.tup _,h=>h.elim
 | n+1,_,.lst _,⟨a,xs,e,h1,h2,h3,h4⟩=>⟨a,xs,e,h1,h2,zH h3 fun _ _=>fG.up,h4⟩
 | n+1,_,.tup _,⟨a,xs,e,h1,h2,h3⟩=>⟨a,xs,e,h1,h2,zH h3 fun _ _=>fG.up⟩
def aus (K:W.Frag) (n:Nat):Sp:=fun vs H Q _=>∃ x y t m,vs=[x,y]∧m<n∧mH K H m x t∧mH K H m y t∧∀ H',aA H H'→Q (.bl true) H'
section
variable {P:Program}{w:World}{K:W.Frag}{mg:Str→Option Value}{base:Heap}{A:cM}
theorem Pb (T:Txt K mg A):∀ n,aG P w K mg base bQ (n+1) A.oY A.sS ["_law_found","_law_due_here"] (aus K n)
 | 0=>⟨fun vs H Q E h=>by obtain⟨x,y,t,m,_,h,_⟩:=h;omega,fun _ _ _ _ _ _ _ _ _ _ _ _ _ h=>by obtain⟨x,y,t,m,_,h,_⟩:=h;omega⟩
 | n+1=>by
   have jh:=Pb T n
   refine T.Og.ok zg (fun vs H Q E h=>?_) (fun cdv A0 outer s H vs Q E hr h=>?_)
   · obtain⟨x,y,t,m,rfl,_⟩:=h
     rfl
   obtain⟨x,y,t,m,rfl,hm,hx,hy,q⟩:=h
   refine⟨_,(zC (zZ (yO (zW uh (by rfl) T.aH Bt.isinstance (zA (pv 1) (zA (yA (zA (yZ (v:=.ty "list") rfl T.qZ Bt.list rfl) (zA (yZ (v:=.ty "tuple") rfl T.Tu Bt.tuple rfl) zD))) zD)))) (zC (zZ (PW.pt (Ex (zL VG (zW yS (by rfl) T.aH Bt.isinstance (zA (pv 1) (zA (yZ (v:=.ty "list") rfl T.qZ Bt.list rfl) zD))) (zW yS (by rfl) T.aH Bt.isinstance (zA (pv 0) (zA (yZ (v:=.ty "list") rfl T.qZ Bt.list rfl) zD))) (zN _)) (vp (xT (yO (zW uh (by rfl) T.aH Bt.isinstance (zA (pv 0) (zA (yA (zA (yZ (v:=.ty "list") rfl T.qZ Bt.list rfl) (zA (yZ (v:=.ty "tuple") rfl T.Tu Bt.tuple rfl) zD))) zD)))))))) (zE (zK xP)) zP)
     (zC (zZ (zL VG (zW yB (by rfl) T.jC PySem.boot_len (zA (pv 0) zD)) (zW yB (by rfl) T.jC PySem.boot_len (zA (pv 1) zD)) (zN _)) (zE (zK xP)) zP)
     (zC (xK PassesOwn.never rfl (Ub rfl T.Z6 (zA (zW yB (by rfl) T.jC PySem.boot_len (zA (pv 1) zD)) zD)) (yP (i:=2) zg.nd rfl ‹0›) (zE (zZ (xT (yO (zU jh ‹hr› rfl T.lJ T.lH T.lG .nil zQ (zA (zS (bj.or zX) (pv 0) (pv 2) (fun _ _=>rfl)) (zA (zS (bj.or zX) (pv 1) (pv 2) (fun _ _=>rfl)) zD))))) (zE (zK xP)) zP)))
     (zE (zK xP))))) zP)
     (zC (zZ (zL xS (pv 1) yQ (zN _)) (zE (zK (xF xS (pv 0) yQ (zN _)))) zP)
     (zC (zZ (PW.pt (Ex (yO (zW yS (by rfl) T.aH Bt.isinstance (zA (pv 1) (zA (yZ (v:=.ty "bool") rfl T.Bq Bt.bool rfl) zD)))) (vp (yO (zW yS (by rfl) T.aH Bt.isinstance (zA (pv 0) (zA (yZ (v:=.ty "bool") rfl T.Bq Bt.bool rfl) zD))))))) (zE (zK (Ey (zW yS (by rfl) T.aH Bt.isinstance (zA (pv 1) (zA (yZ (v:=.ty "bool") rfl T.Bq Bt.bool rfl) zD))) (Ey (zW yS (by rfl) T.aH Bt.isinstance (zA (pv 0) (zA (yZ (v:=.ty "bool") rfl T.Bq Bt.bool rfl) zD))) (Ka (xF yM (pv 0) (pv 1) (zN _))))))) zP)
     (zC (zZ (yO (zW yS (by rfl) T.aH Bt.isinstance (zA (pv 1) (zA (yZ (v:=.ty "str") rfl T.W9 Bt.str rfl) zD)))) (zE (zK (Ey (zW yS (by rfl) T.aH Bt.isinstance (zA (pv 0) (zA (yZ (v:=.ty "str") rfl T.W9 Bt.str rfl) zD))) (Ka (xF yM (pv 0) (pv 1) (zN _)))))) zP)
     (zE (zK (Ey (zW yS (by rfl) T.aH Bt.isinstance (zA (pv 0) (zA (yZ (v:=.ty "int") rfl T.agq Bt.int rfl) zD))) (Ka (xF yM (pv 0) (pv 1) (zN _)))))))))),?_⟩
   cases t with
   | leaf v =>
     obtain⟨rfl,hv⟩:x=v∧mG v:=by cases m <;> exact hx
     obtain⟨rfl,_⟩:y=x∧mG x:=by cases m <;> exact hy
     refine⟨_,rfl,(by show 2≤sizeLine;decide),fun t1 ht1=>?_⟩
     have s1:=zG ht1 (.tup [.ty "list",.ty "tuple"])
     have q1:=q _ s1
     cases y with
     | non=>exact⟨_,t1,_,_,_,rfl,zB,rfl,.old .non,xM T.DK T.Bs,_,rfl,aF ⟨_,rfl,rfl,_,rfl,bA ⟨_,rfl,rfl,q1⟩⟩⟩
     | bl b =>
       refine⟨_,t1,_,_,_,rfl,zB,rfl,.old (.bl b),xM T.Oi T.Li,_,rfl,aF ⟨_,rfl,rfl,_,rfl,aF ?_⟩⟩
       have q2:Q (.bl (decide (V.bl b=V.bl b))) (upd H t1 (.tup [.ty "list",.ty "tuple"])):=by rw [decide_eq_true rfl];exact q1
       exact⟨_,rfl,_,_,_,_,rfl,rfl,.old (.bl b),T.o7,_,rfl,bA ⟨_,rfl,_,_,_,_,rfl,rfl,.old (.bl b),T.o7,_,rfl,bA ⟨_,rfl,_,_,_,_,rfl,rfl,.old (.bl b),T.o7,_,rfl,bA ⟨_,rfl,_,rfl,rfl,q2⟩⟩⟩⟩
     | int i =>
       have q2:Q (.bl (decide (V.int i=V.int i))) (upd H t1 (.tup [.ty "list",.ty "tuple"])):=by rw [decide_eq_true rfl];exact q1
       refine⟨_,t1,_,_,_,rfl,zB,rfl,.old (.int i),xM T.Ri T.Oj,_,rfl,aF ⟨_,rfl,rfl,_,rfl,aF ?_⟩⟩
       refine⟨_,rfl,_,_,_,_,rfl,rfl,.old (.int i),T.GP,_,rfl,aF ⟨_,rfl,_,_,_,_,rfl,rfl,.old (.int i),T.GP,_,rfl,aF ?_⟩⟩
       refine⟨_,rfl,_,_,_,_,rfl,rfl,.old (.int i),T.U5,_,rfl,aF ?_⟩
       exact⟨_,rfl,_,_,_,_,rfl,rfl,.old (.int i),T.U4,_,rfl,bA ⟨_,rfl,_,rfl,rfl,q2⟩⟩
     | str z =>
       have q2:Q (.bl (decide (V.str z=V.str z))) (upd H t1 (.tup [.ty "list",.ty "tuple"])):=by rw [decide_eq_true rfl];exact q1
       refine⟨_,t1,_,_,_,rfl,zB,rfl,.old (.str z),xM T.Rj T.Ol,_,rfl,aF ⟨_,rfl,rfl,_,rfl,aF ?_⟩⟩
       refine⟨_,rfl,_,_,_,_,rfl,rfl,.old (.str z),T.GQ,_,rfl,aF ⟨_,rfl,_,_,_,_,rfl,rfl,.old (.str z),T.GQ,_,rfl,aF ?_⟩⟩
       refine⟨_,rfl,_,_,_,_,rfl,rfl,.old (.str z),T.Br,_,rfl,bA ?_⟩
       exact⟨_,rfl,_,_,_,_,rfl,rfl,.old (.str z),T.Br,_,rfl,bA ⟨_,rfl,_,rfl,rfl,q2⟩⟩
     | _=>exact hv.elim
   | lst l =>
     cases m with
     | zero=>exact hx.elim
     | succ m =>
       obtain⟨a,xs,rfl,ha,hxl,hxs⟩:=hx
       obtain⟨b,ys,rfl,hb,hyl,hys⟩:=hy
       have lx:=zV hxs
       have ly:=zV hys
       refine⟨_,rfl,(by show 2≤sizeLine;decide),fun t1 ht1=>?_⟩
       have s1:=zG ht1 (.tup [.ty "list",.ty "tuple"])
       refine⟨_,t1,_,_,_,rfl,zB,rfl,.old (.lst (s1 _ _ hb)),xM T.o8 T.xY,_,rfl,bA ?_⟩
       refine⟨_,rfl,_,_,_,_,rfl,rfl,.old (.lst (s1 _ _ hb)),T.o8,_,rfl,_,_,_,_,rfl,rfl,.old (.lst (s1 _ _ ha)),T.o8,rfl,_,rfl,aF ?_⟩
       refine⟨_,rfl,(by show 2≤sizeLine;decide),fun t2 Lz=>?_⟩
       have s2:=zG Lz (.tup [.ty "list",.ty "tuple"])
       refine⟨_,t2,_,_,_,rfl,zB,rfl,.old (.lst (s2 _ _ (s1 _ _ ha))),xM T.o8 T.xY,_,rfl,aF ?_⟩
       have s12:=s1.trans s2
       refine⟨_,rfl,a,_,rfl,.inl (bR.of (s12 _ _ ha)),_,rfl,b,_,rfl,.inl (bR.of (s12 _ _ hb)),rfl,_,rfl,?_⟩
       have el:(!decide (V.int ((xs.length:Nat):Int)=V.int ((ys.length:Nat):Int)))=false:=by rw [lx,ly];simp
       refine agu el ?_
       refine⟨_,rfl,b,_,rfl,.inl (bR.of (s12 _ _ hb)),_,rfl,(by omega),(by omega),?_⟩
       rw [Int.toNat_natCast]
       refine Fq (fun i σ G=>∃ u,σ=[some (.ref a),some (.ref b),u]∧aA H G) ⟨_,rfl,s12⟩ (fun i σ G hi hw=>?_) (fun σ G hw=>?_)
       · obtain⟨u,rfl,sG⟩:=hw
         have hiy:i<ys.length:=by simpa using hi
         obtain⟨y,hy⟩:∃ y,ys[i]? = some y:=⟨_,List.getElem?_eq_getElem hiy⟩
         obtain⟨x,hx⟩:∃ x,xs[i]? = some x:=⟨_,List.getElem?_eq_getElem (by omega)⟩
         obtain⟨t,ht,hxt⟩:=yF hxs hx
         obtain⟨t',ht',hyt⟩:=yF hys hy
         rw [ht] at ht';cases ht'
         have ex:iM xs (0+(i:Int))=some x:=by rw [Int.zero_add];exact zR hx
         have ey:iM ys (0+(i:Int))=some y:=by rw [Int.zero_add];exact zR hy
         refine⟨_,rfl,_,rfl,.inl ⟨a,_,_,_,rfl,rfl,bR.of (sG _ _ ha),ex,_,rfl,_,rfl,.inl ⟨b,_,_,_,rfl,rfl,bR.of (sG _ _ hb),ey,?_⟩⟩⟩
         exact⟨_,_,t,m,rfl,by omega,mH.same sG hxt,mH.same sG hyt,fun H' s'=>⟨_,rfl,aF ⟨_,rfl,sG.trans s'⟩⟩⟩
       · obtain⟨u,rfl,sG⟩:=hw
         exact q _ sG
   | tup l =>
     cases m with
     | zero=>exact hx.elim
     | succ m =>
       obtain⟨a,xs,rfl,ha,hxl,hxs⟩:=hx
       obtain⟨b,ys,rfl,hb,hyl,hys⟩:=hy
       have lx:=zV hxs
       have ly:=zV hys
       refine⟨_,rfl,(by show 2≤sizeLine;decide),fun t1 ht1=>?_⟩
       have s1:=zG ht1 (.tup [.ty "list",.ty "tuple"])
       refine⟨_,t1,_,_,_,rfl,zB,rfl,.tpl (s1.pH hb.sq),xM T.mR T.uZ,_,rfl,bA ?_⟩
       refine⟨_,rfl,_,_,_,_,rfl,rfl,.tpl (s1.pH hb.sq),T.mR,_,rfl,_,_,_,_,rfl,rfl,.tpl (s1.pH ha.sq),T.mR,rfl,_,rfl,aF ?_⟩
       refine⟨_,rfl,(by show 2≤sizeLine;decide),fun t2 Lz=>?_⟩
       have s2:=zG Lz (.tup [.ty "list",.ty "tuple"])
       refine⟨_,t2,_,_,_,rfl,zB,rfl,.tpl (s2.pH (s1.pH ha.sq)),xM T.mR T.uZ,_,rfl,aF ?_⟩
       have s12:=s1.trans s2
       refine⟨_,rfl,a,_,rfl,.inr (s12.pH ha.sq),_,rfl,b,_,rfl,.inr (s12.pH hb.sq),rfl,_,rfl,?_⟩
       have el:(!decide (V.int ((xs.length:Nat):Int)=V.int ((ys.length:Nat):Int)))=false:=by rw [lx,ly];simp
       refine agu el ?_
       refine⟨_,rfl,b,_,rfl,.inr (s12.pH hb.sq),_,rfl,(by omega),(by omega),?_⟩
       rw [Int.toNat_natCast]
       refine Fq (fun i σ G=>∃ u,σ=[some (.ref a),some (.ref b),u]∧aA H G) ⟨_,rfl,s12⟩ (fun i σ G hi hw=>?_) (fun σ G hw=>?_)
       · obtain⟨u,rfl,sG⟩:=hw
         have hiy:i<ys.length:=by simpa using hi
         obtain⟨y,hy⟩:∃ y,ys[i]? = some y:=⟨_,List.getElem?_eq_getElem hiy⟩
         obtain⟨x,hx⟩:∃ x,xs[i]? = some x:=⟨_,List.getElem?_eq_getElem (by omega)⟩
         obtain⟨t,ht,hxt⟩:=yF hxs hx
         obtain⟨t',ht',hyt⟩:=yF hys hy
         rw [ht] at ht';cases ht'
         have ex:iM xs (0+(i:Int))=some x:=by rw [Int.zero_add];exact zR hx
         have ey:iM ys (0+(i:Int))=some y:=by rw [Int.zero_add];exact zR hy
         refine⟨_,rfl,_,rfl,.inr ⟨a,_,_,_,rfl,rfl,sG.pH ha.sq,ex,_,rfl,_,rfl,.inr ⟨b,_,_,_,rfl,rfl,sG.pH hb.sq,ey,?_⟩⟩⟩
         exact⟨_,_,t,m,rfl,by omega,mH.same sG hxt,mH.same sG hyt,fun H' s'=>⟨_,rfl,aF ⟨_,rfl,sG.trans s'⟩⟩⟩
       · obtain⟨u,rfl,sG⟩:=hw
         exact q _ sG
end
theorem pC {F:Addr→Prop}{H:Hp}{n:Nat}:∀ {l:List V},(∀ v∈l,mG v)→Paired (fG F H n) l (l.map Tr.leaf)
 | [],_=>.nil
 | v::l,h=>.cons (by
     have:=h v List.mem_cons_self
     cases n <;> exact⟨rfl,this⟩) (pC fun u hu=>h u (List.mem_cons_of_mem _ hu))
def Mf (h:Str):Prop:=h=‹"<"›∨h=‹"="›∨h=‹">"›
theorem deI {i j:Int}:decide (V.int i=V.int j)=decide (i=j):=by
 by_cases e:i=j
 · rw [decide_eq_true e,decide_eq_true (by rw [e])]
 · rw [decide_eq_false e,decide_eq_false (fun z=>e (V.int.inj z))]
theorem ag1 (x m:Int):qp (some x) ‹"<"› m=decide (x<m):=by
 unfold qp
 exact if_pos rfl
theorem ag2 (x m:Int):qp (some x) ‹">"› m=decide (m<x):=by
 unfold qp
 dsimp only
 rw [if_neg (show ¬ (Str.ofString ">" = ‹"<"›) by symm)]
 exact if_pos rfl
theorem ag3 (x m:Int):qp (some x) ‹"="› m=decide (x=m):=by
 unfold qp
 dsimp only
 rw [if_neg (show ¬ (Str.ofString "=" = ‹"<"›) by symm)]
 exact if_neg (show ¬ (Str.ofString "=" = ‹">"›) by symm)
theorem Yi {lo hi m:Int} (h:lo≤hi):kh (lo,hi) ‹"<"› m=if hi<m then some true else if m≤lo then some false else none:=by
 unfold kh
 dsimp only
 rw [ag1,ag1]
 by_cases h1:hi<m
 · rw [if_pos h1,if_pos (by simp [h1];omega)]
 · rw [if_neg h1,if_neg (by simp [h1])]
   by_cases h2:m≤lo
   · rw [if_pos h2,if_neg (by simp [h1];omega)]
   · rw [if_neg h2,if_pos (by simp;omega)]
theorem Yj {lo hi m:Int} (h:lo≤hi):kh (lo,hi) ‹">"› m=if m<lo then some true else if hi≤m then some false else none:=by
 unfold kh
 dsimp only
 rw [ag2,ag2]
 by_cases h1:m<lo
 · rw [if_pos h1,if_pos (by simp [h1];omega)]
 · rw [if_neg h1,if_neg (by simp [h1])]
   by_cases h2:hi≤m
   · rw [if_pos h2,if_neg (by simp [h1];omega)]
   · rw [if_neg h2,if_pos (by simp;omega)]
theorem Yk {lo hi m:Int} (h:lo≤hi):kh (lo,hi) ‹"="› m=if lo=m∧hi=m then some true else if m<lo∨hi<m then some false else none:=by
 unfold kh
 dsimp only
 rw [ag3,ag3]
 by_cases h1:lo=m∧hi=m
 · rw [if_pos h1,if_pos (by simp [h1])]
 · rw [if_neg h1,if_neg (by simpa using h1)]
   by_cases h2:m<lo∨hi<m
   · rw [if_pos h2,if_neg (by simp;omega)]
   · rw [if_neg h2,if_pos (by simp;omega)]
def aaB:Sp:=fun vs H Q _=>∃ h lo hi m,vs=[.str h,.int lo,.int hi,.int m]∧Mf h∧lo≤hi∧Q (tv (kh (lo,hi) h m)) H
def adb:Sp:=fun vs H Q _=>∃ (t:At) (lo:Int),vs=[.str t.h,.int lo,.int t.m]∧Mf t.h∧Q (.int (kj t lo)) H
section
variable {P:Program}{w:World}{K:W.Frag}{mg:Str→Option Value}{base:Heap}{A:cM}
theorem Mg (T:Txt K mg A):aG P w K mg base bQ 1 A.oW A.sO ["_law_how","_law_low","_law_high","_law_number"] aaB:=by
 refine T.Ob.ok Ls (fun vs H Q E h=>?_) (fun cdv A0 outer s H vs Q E hr h=>?_)
 · obtain⟨h,lo,hi,m,rfl,_⟩:=h
   rfl
 obtain⟨h,lo,hi,m,rfl,hw,hle,q⟩:=h
 refine⟨_,(zC (zZ (PW.pt (Ex (PW.pt (xI (zL yM (pv 0) zM (zN _)) (yY (zL oM (pv 2) (pv 3) (zN _))))) (vp (PW.pt (xI (zL yM (pv 0) zM (zN _)) (yY (zL SM (pv 1) (pv 3) (zN _)))))))) (zE (zK xP)) zP)
     (zC (zZ (PW.pt (xI (zL yM (pv 0) zM (zN _)) (xI (zL yM (pv 1) (pv 3) (zN _)) (yY (zL yM (pv 2) (pv 3) (zN _)))))) (zE (zK xP)) zP)
     (zC (zZ (PW.pt (Ex (PW.pt (xI (zL yM (pv 0) zM (zN _)) (yY (zL afV (pv 1) (pv 3) (zN _))))) (vp (PW.pt (xI (zL yM (pv 0) zM (zN _)) (yY (zL afU (pv 2) (pv 3) (zN _)))))))) (zE (zK xP)) zP)
     (zC (zZ (PW.pt (xI (zL yM (pv 0) zM (zN _)) (yY (PW.pt (Ex (zL SM (pv 1) (pv 3) (zN _)) (vp (zL oM (pv 2) (pv 3) (zN _)))))))) (zE (zK xP)) zP)
     (zE (zK yQ)))))),?_⟩
 have nLE:‹"<"› ≠ ‹"="›:=by symm
 have nLG:‹"<"› ≠ ‹">"›:=by symm
 have nEL:‹"="› ≠ ‹"<"›:=by symm
 have nEG:‹"="› ≠ ‹">"›:=by symm
 have nGL:‹">"› ≠ ‹"<"›:=by symm
 have nGE:‹">"› ≠ ‹"="›:=by symm
 rcases hw with rfl | rfl | rfl
 · rw [Yi hle] at q
   refine⟨_,rfl,rfl,_,rfl,CW rfl ⟨_,rfl,_,rfl,_,_,rfl,rfl,_,rfl,?_⟩⟩
   refine lC (fun d=>?_) (fun d=>?_)
   · rw [if_pos (of_decide_eq_true d)] at q
     exact bA q
   rw [if_neg (fun z=>d (decide_eq_true z))] at q
   refine⟨_,rfl,rfl,_,rfl,mz nLG (aF ?_)⟩
   refine⟨_,rfl,rfl,_,rfl,mz nLE (aF ?_)⟩
   refine⟨_,rfl,rfl,_,rfl,CW rfl ⟨_,rfl,_,rfl,_,_,rfl,rfl,_,rfl,?_⟩⟩
   refine lC (fun d=>?_) (fun d=>?_)
   · rw [if_pos (of_decide_eq_true d)] at q
     exact bA q
   rw [if_neg (fun z=>d (decide_eq_true z))] at q
   refine⟨_,rfl,rfl,_,rfl,mz nLG (aF ?_)⟩
   exact⟨_,rfl,rfl,_,rfl,mz nLE (aF q)⟩
 · rw [Yk hle] at q
   refine⟨_,rfl,rfl,_,rfl,mz nEL (aF ⟨_,rfl,rfl,_,rfl,mz nEG (aF ?_)⟩)⟩
   have last:(¬ (lo=m∧hi=m))→Zn
       (abO (tOr (T7 (rD (PK rEq (mJ 0) (tC (V.str ‹"<"›)))) (rD (PK (Sw fun i j=>V.bl (decide (j≤i))) (mJ 1) (mJ 3)))) (T7 (rD (PK rEq (mJ 0) (tC (V.str ‹">"›)))) (rD (PK (Sw fun i j=>V.bl (decide (i≤j))) (mJ 2) (mJ 3))))) (Zo (tC (V.bl false))) Vu)
       (Zn (abO (T7 (rD (PK rEq (mJ 0) (tC (V.str ‹"="›)))) (tOr (rD (PK (Sw fun i j=>V.bl (decide (j<i))) (mJ 1) (mJ 3))) (rD (PK (Sw fun i j=>V.bl (decide (i<j))) (mJ 2) (mJ 3))))) (Zo (tC (V.bl false))) Vu) (Zo (tC V.non)))
       { nx:=fun _ H'=>Q V.non H',rt:=Q } (L2.start [‹"_law_how"›,‹"_law_low"›,‹"_law_high"›,‹"_law_number"›] [V.str ‹"="›,V.int lo,V.int hi,V.int m]) H:=fun hn=>by
     rw [if_neg hn] at q
     refine⟨_,rfl,rfl,_,rfl,mz nEL (aF ⟨_,rfl,rfl,_,rfl,mz nEG (aF ?_)⟩)⟩
     refine⟨_,rfl,rfl,_,rfl,CW rfl ⟨_,rfl,_,rfl,_,_,rfl,rfl,_,rfl,?_⟩⟩
     refine lC (fun d=>?_) (fun d=>?_)
     · rw [if_pos (.inl (of_decide_eq_true d))] at q
       exact bA q
     refine⟨_,rfl,_,rfl,_,_,rfl,rfl,_,rfl,lC (fun e=>?_) (fun e=>?_)⟩
     · rw [if_pos (.inr (of_decide_eq_true e))] at q
       exact q
     rw [if_neg (fun z=>z.elim (fun z=>d (decide_eq_true z)) (fun z=>e (decide_eq_true z)))] at q
     exact q
   refine⟨_,rfl,rfl,_,rfl,CW rfl ⟨_,rfl,_,rfl,rfl,_,rfl,?_⟩⟩
   rw [deI]
   refine lC (fun d=>?_) (fun d=>?_)
   · refine⟨_,rfl,_,rfl,rfl,_,rfl,?_⟩
     rw [deI]
     refine lC (fun e=>?_) (fun e=>last fun z=>e (decide_eq_true z.2))
     rw [if_pos ⟨of_decide_eq_true d,of_decide_eq_true e⟩] at q
     exact q
   · exact aF (last fun z=>d (decide_eq_true z.1))
 · rw [Yj hle] at q
   refine⟨_,rfl,rfl,_,rfl,mz nGL (aF ?_)⟩
   refine⟨_,rfl,rfl,_,rfl,CW rfl ⟨_,rfl,_,rfl,_,_,rfl,rfl,_,rfl,?_⟩⟩
   refine lC (fun d=>?_) (fun d=>?_)
   · rw [if_pos (of_decide_eq_true d)] at q
     exact q
   rw [if_neg (fun z=>d (decide_eq_true z))] at q
   refine⟨_,rfl,rfl,_,rfl,mz nGE (aF ?_)⟩
   refine⟨_,rfl,rfl,_,rfl,mz nGL (aF ?_)⟩
   refine⟨_,rfl,rfl,_,rfl,CW rfl ⟨_,rfl,_,rfl,_,_,rfl,rfl,_,rfl,?_⟩⟩
   refine lC (fun d=>?_) (fun d=>?_)
   · rw [if_pos (of_decide_eq_true d)] at q
     exact q
   rw [if_neg (fun z=>d (decide_eq_true z))] at q
   exact⟨_,rfl,rfl,_,rfl,mz nGE (aF q)⟩
theorem RP (T:Txt K mg A):aG P w K mg base bQ 1 A.uw A.Aj ["_law_how","_law_low","_law_number"] adb:=by
 refine T.UL.ok Rr (fun vs H Q E h=>?_) (fun cdv A0 outer s H vs Q E hr h=>?_)
 · obtain⟨t,lo,rfl,_⟩:=h
   rfl
 obtain⟨t,lo,rfl,hw,q⟩:=h
 refine⟨_,(zC (zZ (PW.pt (Ex (zL yM (pv 0) zM (zN _)) (vp (PW.pt (xI (zL yM (pv 0) zM (zN _)) (yY (zL oM (pv 1) (pv 2) (zN _)))))))) (zE (zK (zY rY (pv 2) zF))) zP)
     (zE (zK (pv 2)))),?_⟩
 unfold kj at q
 generalize t.h=h at hw q ⊢
 generalize t.m=m at q ⊢
 have nEL:‹"="› ≠ ‹"<"›:=by symm
 have nEG:‹"="› ≠ ‹">"›:=by symm
 have nGL:‹">"› ≠ ‹"<"›:=by symm
 have nGE:‹">"› ≠ ‹"="›:=by symm
 rcases hw with rfl | rfl | rfl
 · rw [if_pos rfl] at q
   exact⟨_,rfl,rfl,_,rfl,CW rfl ⟨_,rfl,_,_,rfl,rfl,q⟩⟩
 · rw [if_neg nEL,if_neg nEG] at q
   unfold RG at q
   refine⟨_,rfl,rfl,_,rfl,mz nEL ⟨_,rfl,rfl,_,rfl,CW rfl ⟨_,rfl,_,rfl,_,_,rfl,rfl,_,rfl,lC (fun d=>?_) (fun d=>?_)⟩⟩⟩
   · rw [if_pos (of_decide_eq_true d)] at q
     exact⟨_,rfl,_,_,rfl,rfl,q⟩
   · rw [if_neg (fun z=>d (decide_eq_true z))] at q
     exact⟨_,rfl,q⟩
 · rw [if_neg nGL,if_pos rfl] at q
   exact⟨_,rfl,rfl,_,rfl,mz nGL ⟨_,rfl,rfl,_,rfl,mz nGE (aF ⟨_,rfl,q⟩)⟩⟩
end
def kw:Kn→Str
 | .yn=>‹"yesno"›
 | .pk _=>‹"pick"›
 | .nm _=>‹"names"›
 | .mo _ _=>‹"money"›
 | .wh _ _=>‹"whole"›
def W6:List Str:=[‹"red"›,‹"yes"›,‹"blue"›,‹"no"›,‹"green"›,‹"grey"›]
def TF:Kn→Prop
 | .yn=>True
 | .pk ws=>∃ n:Nat,2≤n∧n≤6∧ws=W6.take n
 | .nm hi=>1≤hi
 | .mo lo hi=>lo≤hi
 | .wh lo hi=>lo≤hi
theorem t7 {n:Nat} (h:n≤6):(W6.take n).length=n:=by rw [List.length_take];show min n 6=n;omega
theorem TF.le {x:Kn} (h:TF x):x.lo≤x.hi:=by
 cases x with
 | yn=>decide
 | pk ws =>
   obtain⟨n,h1,h2,rfl⟩:=h
   show (0:Int)≤((W6.take n).length:Nat) - 1
   rw [t7 h2];omega
 | nm hi=>have h:1≤hi:=h;show 0≤hi;omega
 | mo lo hi=>exact h
 | wh lo hi=>exact h
def KtR (H:Hp) (v:V) (x:Kn):Prop:=jB H v [.str (kw x),.int x.lo,.int x.hi]
theorem Mh {l:List Int}{i:Int} (h0:0≤i) (h1:i<l.length):∃ m,iM (l.map V.int) i=some (.int m)∧m∈l:=by
 obtain⟨v,hv,hv2⟩:=qy (l:=l.map V.int) (i:=i) h0 (by rw [List.length_map];exact h1)
 obtain⟨m,hm,rfl⟩:=oO hv2
 exact⟨m,hv,List.mem_of_getElem? hm⟩
theorem aaC {l:List Str}{i:Int} (h0:0≤i) (h1:i<l.length):∃ m,iM (l.map V.str) i=some (.str m)∧m∈l:=by
 obtain⟨v,hv,hv2⟩:=qy (l:=l.map V.str) (i:=i) h0 (by rw [List.length_map];exact h1)
 obtain⟨m,hm,rfl⟩:=oO hv2
 exact⟨m,hv,List.mem_of_getElem? hm⟩
theorem Mi {p:Addr}{H Hm H':Hp} (s:aA H Hm) (n:H p=none) (F:Fr [p] Hm H'):aA H H':=fun b o e=>F b o (s b o e) (rB (zJ e n))
def kk (c:Int):Int:=c*48271 % (2*(10:Int) ^ (18:Int).toNat) - (10:Int) ^ (18:Int).toNat
def ade:Sp:=fun vs H Q _=>∃ c:Int,vs=[.int c]∧0≤c∧c<E40∧∀ x v H',TF x→aA H H'→KtR H' v x→Q v H'
def ag6 (A:cM):Sp:=fun vs H Q _=>∃ v x,vs=[v]∧KtR H v x∧TF x∧∀ k H',aA H H'→PN A H' k x→Q (.ref k) H'
section
variable {P:Program}{w:World}{K:W.Frag}{mg:Str→Option Value}{base:Heap}{A:cM}
theorem Pg (T:Txt K mg A):aG P w K mg base bQ 1 A.qR A.vO ["_law_cell_here"] ade:=by
 refine T.Q0.ok CT (fun vs H Q E h=>?_) (fun cdv A0 outer s H vs Q E hr h=>?_)
 · obtain⟨c,rfl,_⟩:=h
   rfl
 obtain⟨c,rfl,hc1,hc2,q⟩:=h
 refine⟨_,(zC (zT (i:=1) CT.nd rfl ‹0› (zS bj (yJ (zA zF (zA (zY rY (zY yX (zY Ks (pv 0) zF) (zY Ks zF (zY Ke zF zF))) (zY Ke zF zF)) zD))) (zY yX (zY kE (pv 0) zF) zF) (fun _ _=>rfl)))
     (zC (zZ (zL oM (zY yX (pv 0) zF) zF (zN _)) (zE (zK (yA (zA zM (zA zF (zA zF zD)))))) zP)
     (zC (zZ (zL yM (zY yX (pv 0) zF) zF (zN _)) (zE (zK (yA (zA zM (zA zF (zA (zY xE zF (zY yX (zY kE (pv 0) zF) zF)) zD)))))) zP)
     (zC (zZ (zL yM (zY yX (pv 0) zF) zF (zN _)) (zE (zK (yA (zA zM (zA zF (zA (zY xE zF (zY yX (zY kE (pv 0) zF) zF)) zD)))))) zP)
     (zC (zZ (zL yM (zY yX (pv 0) zF) zF (zN _)) (zE (zK (yA (zA zM (zA (pv 1) (zA (zY xE (pv 1) (zY yX (zY kE (pv 0) zF) zF)) zD)))))) zP)
     (zE (zK (yA (zA zM (zA (pv 1) (zA (zY xE (pv 1) (zS bj (yJ (zA zF (zA zF (zA zF (zA (zY Ke zF zF) zD))))) (zY yX (zY kE (pv 0) zF) zF) (fun _ _=>rfl))) zD))))))))))),?_⟩
 have hc2:c<10000000000000000000000000000000000000000:=hc2
 have p18:(10:Int) ^ (18:Int).toNat=1000000000000000000:=by symm
 have e0:=Int.emod_nonneg (c / 6) (b:=2) (by decide)
 have e1:=Int.emod_lt_of_pos (c / 6) (b:=2) (by decide)
 refine⟨_,rfl,_,_,rfl,rfl,⟨ibc (by omega),ibc (by decide)⟩,_,_,rfl,rfl,⟨by decide,by decide,by symm⟩,_,_,rfl,rfl,⟨ibc (by decide),ibc (by rw [p18];decide)⟩,_,_,rfl,rfl,(by show (0:Int)<2*(10:Int) ^ (18:Int).toNat;rw [p18];decide),_,_,rfl,rfl,⟨by decide,by decide,by symm⟩,_,_,rfl,rfl,(by show 2≤sizeLine;decide),fun p2 hp2=>?_⟩
 have s1:=zG hp2 (.lst [.int 0,.int (kk c)])
 obtain⟨lo,hlo,_⟩:=Mh (l:=[0,kk c]) (i:=c / 6 % 2) e0 e1
 refine⟨_,rfl,_,_,rfl,rfl,⟨by decide,by decide⟩,_,_,rfl,rfl,(by show (0:Int)<2;decide),p2,_,_,_,rfl,rfl,bR.of zB,hlo,?_⟩
 dsimp only [bU,List.set_cons_succ,List.set_cons_zero]
 refine⟨_,rfl,_,_,rfl,rfl,(by show (0:Int)<6;decide),_,_,rfl,rfl,_,rfl,lC (fun d=>?_) (fun d=>?_)⟩
 · refine⟨(by show 3≤sizeLine;decide),fun p hp=>?_⟩
   exact q .yn (.ref p) _ True.intro (s1.trans (zG hp _)) ⟨p,rfl,zB⟩
 refine⟨_,rfl,_,_,rfl,rfl,(by show (0:Int)<6;decide),rfl,_,rfl,lC (fun d=>?_) (fun d=>?_)⟩
 · have f0:=Int.emod_nonneg (c / 6) (b:=5) (by decide)
   have f1:=Int.emod_lt_of_pos (c / 6) (b:=5) (by decide)
   refine⟨_,rfl,_,_,rfl,rfl,⟨by decide,by decide⟩,_,_,rfl,rfl,(by show (0:Int)<5;decide),_,_,rfl,rfl,(by show 3≤sizeLine;decide),fun p hp=>?_⟩
   have el:((W6.take (2+(c / 6 % 5).toNat)).length:Nat)=2+(c / 6 % 5).toNat:=t7 (by omega)
   refine q (.pk (W6.take (2+(c / 6 % 5).toNat))) (.ref p) _ ⟨_,by omega,by omega,rfl⟩ (s1.trans (zG hp _)) ⟨p,rfl,?_⟩
   have e:(Kn.pk (W6.take (2+(c / 6 % 5).toNat))).hi=1+c / 6 % 5:=by
     show (((W6.take (2+(c / 6 % 5).toNat)).length:Nat):Int) - 1=_
     rw [el];omega
   rw [e];exact zB
 refine⟨_,rfl,_,_,rfl,rfl,(by show (0:Int)<6;decide),rfl,_,rfl,lC (fun d=>?_) (fun d=>?_)⟩
 · have f0:=Int.emod_nonneg (c / 6) (b:=6) (by decide)
   refine⟨_,rfl,_,_,rfl,rfl,⟨by decide,by decide⟩,_,_,rfl,rfl,(by show (0:Int)<6;decide),_,_,rfl,rfl,(by show 3≤sizeLine;decide),fun p hp=>?_⟩
   exact q (.nm (1+c / 6 % 6)) (.ref p) _ (by show 1≤1+c / 6 % 6;omega) (s1.trans (zG hp _)) ⟨p,rfl,zB⟩
 refine⟨_,rfl,_,_,rfl,rfl,(by show (0:Int)<6;decide),rfl,_,rfl,lC (fun d=>?_) (fun d=>?_)⟩
 · have f0:=Int.emod_nonneg (c / 12) (b:=5) (by decide)
   refine⟨_,rfl,_,rfl,_,rfl,_,_,rfl,rfl,⟨by decide,by decide⟩,_,_,rfl,rfl,(by show (0:Int)<5;decide),_,_,rfl,rfl,(by show 3≤sizeLine;decide),fun p hp=>?_⟩
   exact q (.mo lo (lo+c / 12 % 5)) (.ref p) _ (by show lo≤lo+c / 12 % 5;omega) (s1.trans (zG hp _)) ⟨p,rfl,zB⟩
 have g0:=Int.emod_nonneg (c / 12) (b:=4) (by decide)
 have g1:=Int.emod_lt_of_pos (c / 12) (b:=4) (by decide)
 obtain⟨wd,hwd,hmem⟩:=Mh (l:=[0,3,10,(10:Int) ^ (18:Int).toNat]) (i:=c / 12 % 4) g0 g1
 have wd0:0≤wd:=by
   rw [p18] at hmem
   simp only [List.mem_cons,List.not_mem_nil,or_false] at hmem
   omega
 refine⟨_,rfl,_,rfl,_,_,rfl,rfl,⟨by decide,by decide,by symm⟩,(by show 4≤sizeLine;decide),fun p4 hp4=>?_⟩
 have s6:=zG hp4 (.lst [.int 0,.int 3,.int 10,.int ((10:Int) ^ (18:Int).toNat)])
 refine⟨_,rfl,_,_,rfl,rfl,⟨by decide,by decide⟩,_,_,rfl,rfl,(by show (0:Int)<4;decide),p4,_,_,_,rfl,rfl,bR.of zB,hwd,_,_,rfl,rfl,(by show 3≤sizeLine;decide),fun p hp=>?_⟩
 exact q (.wh lo (lo+wd)) (.ref p) _ (by show lo≤lo+wd;omega) ((s1.trans s6).trans (zG hp _)) ⟨p,rfl,zB⟩
theorem Jr (T:Txt K mg A):aG P w K mg base bQ 5 A.mL A.qT ["_law_kind_here"] (ag6 A):=by
 have cY:=mW (P:=P) (w:=w) (base:=base) T
 have km:=CV (P:=P) (w:=w) (base:=base) T
 have Eh:=Lx (P:=P) (w:=w) (base:=base) T
 have BR:=Jl (P:=P) (w:=w) (base:=base) T
 refine T.K4.ok Jg (fun vs H Q E h=>?_) (fun cdv A0 outer s H vs Q E hr h=>?_)
 · obtain⟨v,x,rfl,_⟩:=h
   rfl
 obtain⟨v,x,rfl,⟨a,rfl,ha⟩,hK,q⟩:=h
 refine⟨_,(zC (zZ (zL yM (zS zX (pv 0) zF (fun _ _=>rfl)) zM (zN _)) (zE (zK (MP T.Om km ‹hr› rfl T.Tv T.qg .nil zQ))) zP)
     (zC (zZ (zL yM (zS zX (pv 0) zF (fun _ _=>rfl)) zM (zN _)) (zE (zK (xA T.aai Eh ‹hr› rfl T.acA T.Dm .nil zQ (zA (pY S8 (yJ (zA zM (zA zM (zA zM (zA zM (zA zM (zA zM zD))))))) ue (uf (zY xE (zS zX (pv 0) zF (fun _ _=>rfl)) zF))) zD)))) zP)
     (zC (zZ (zL yM (zS zX (pv 0) zF (fun _ _=>rfl)) zM (zN _)) (zE (zK (xA T.Xi BR ‹hr› rfl T.aaa T.Ar .nil zQ (zA (zS zX (pv 0) zF (fun _ _=>rfl)) zD)))) zP)
     (zC (zZ (zL yM (zS zX (pv 0) zF (fun _ _=>rfl)) zM (zN _)) (zE (zK (xA T.Xg cY ‹hr› rfl T.Z9 T.fP .nil zQ (zA (zS zX (pv 0) zF (fun _ _=>rfl)) (zA (zS zX (pv 0) zF (fun _ _=>rfl)) zD))))) zP)
     (zE (zK (xA T.Xe cY ‹hr› rfl T.aae T.fP .nil zQ (zA (zS zX (pv 0) zF (fun _ _=>rfl)) (zA (zS zX (pv 0) zF (fun _ _=>rfl)) zD))))))))),?_⟩
 have ha':dH K H a _:=dH.of ha
 have i0:iM [V.str (kw x),.int x.lo,.int x.hi] ((0:Nat):Int)=some (.str (kw x)):=zR rfl
 have i1:iM [V.str (kw x),.int x.lo,.int x.hi] ((1:Nat):Int)=some (.int x.lo):=zR rfl
 have i2:iM [V.str (kw x),.int x.lo,.int x.hi] ((2:Nat):Int)=some (.int x.hi):=zR rfl
 cases x with
 | yn =>
   refine⟨_,rfl,a,_,_,_,rfl,rfl,ha',i0,rfl,_,rfl,CW rfl ?_⟩
   intro k dk nk ndk _
   refine⟨k,dk,rfl,zB,rfl,?_⟩
   rw [yH]
   exact q k _ (yC nk ndk _) ⟨dk,dk,zB,fun ws e=>by cases e⟩
 | pk ws =>
   obtain⟨n,h1,h2,rfl⟩:=hK
   refine⟨_,rfl,a,_,_,_,rfl,rfl,ha',i0,rfl,_,rfl,mz (show ‹"pick"› ≠ ‹"yesno"› by symm) ?_⟩
   refine⟨_,rfl,a,_,_,_,rfl,rfl,ha',i0,rfl,_,rfl,CW rfl ?_⟩
   refine⟨(by show 6≤sizeLine;decide),fun wl hwl=>?_⟩
   have s1:=zG hwl (.lst (W6.map V.str))
   have ehi:(Kn.pk (W6.take n)).hi+1=(n:Int):=by
     show (((W6.take n).length:Nat):Int) - 1+1=n
     rw [t7 h2];omega
   have ec:pG (W6.map V.str) none (some ((Kn.pk (W6.take n)).hi+1))=(W6.take n).map V.str:=by
     rw [ehi]
     unfold pG
     rw [HT.Fd,HT.Kh,List.drop_zero,Nat.sub_zero,List.map_take,show min n (W6.map V.str).length=n from by rw [List.length_map];show min n 6=n;omega]
   refine⟨_,rfl,a,_,_,_,rfl,rfl,s1.pH ha',i2,_,_,rfl,rfl,_,rfl,wl,_,rfl,bR.of zB,fun sl hsl=>?_⟩
   have s2:=zG hsl (.lst (pG (W6.map V.str) none (some ((Kn.pk (W6.take n)).hi+1))))
   have hS:(upd (upd H wl (.lst (W6.map V.str))) sl (.lst (pG (W6.map V.str) none (some ((Kn.pk (W6.take n)).hi+1))))) sl=some (.lst ((W6.take n).map V.str)):=by rw [ec];exact zB
   intro k dk nk ndk _
   have y1:=yC nk ndk (.ins A.cT dk [])
   refine⟨k,dk,sl,W6.take n,rfl,zB,y1 _ _ hS,by rw [t7 h2];omega,fun q' H' F hk hq=>⟨rfl,?_⟩⟩
   refine q k H' ((s1.trans s2).trans (Mi y1 nk F)) ⟨dk,q',hk,fun ws e=>?_⟩
   cases e
   refine⟨fun z=>?_,hq⟩
   have:=congrArg List.length z
   rw [t7 h2] at this
   exact absurd this (by show ¬ n=0;omega)
 | nm hi =>
   refine⟨_,rfl,a,_,_,_,rfl,rfl,ha',i0,rfl,_,rfl,mz (show ‹"names"› ≠ ‹"yesno"› by symm) ?_⟩
   refine⟨_,rfl,a,_,_,_,rfl,rfl,ha',i0,rfl,_,rfl,mz (show ‹"names"› ≠ ‹"pick"› by symm) ?_⟩
   refine⟨_,rfl,a,_,_,_,rfl,rfl,ha',i0,rfl,_,rfl,CW rfl ?_⟩
   refine⟨_,rfl,a,_,_,_,rfl,rfl,ha',i2,?_⟩
   intro k dk nk ndk _
   refine⟨k,dk,_,rfl,zB,rfl,?_⟩
   rw [yH]
   exact q k _ (yC nk ndk _) ⟨dk,dk,zB,fun ws e=>by cases e⟩
 | mo lo hi =>
   refine⟨_,rfl,a,_,_,_,rfl,rfl,ha',i0,rfl,_,rfl,mz (show ‹"money"› ≠ ‹"yesno"› by symm) ?_⟩
   refine⟨_,rfl,a,_,_,_,rfl,rfl,ha',i0,rfl,_,rfl,mz (show ‹"money"› ≠ ‹"pick"› by symm) ?_⟩
   refine⟨_,rfl,a,_,_,_,rfl,rfl,ha',i0,rfl,_,rfl,mz (show ‹"money"› ≠ ‹"names"› by symm) ?_⟩
   refine⟨_,rfl,a,_,_,_,rfl,rfl,ha',i0,rfl,_,rfl,CW rfl ?_⟩
   refine⟨_,rfl,a,_,_,_,rfl,rfl,ha',i1,_,rfl,a,_,_,_,rfl,rfl,ha',i2,?_⟩
   intro k dk nk ndk _
   refine⟨k,_,dk,_,_,rfl,zB,T.Hg,T.yd,T.vg,rfl,?_⟩
   rw [yH]
   exact q k _ (yC nk ndk _) ⟨dk,dk,zB,fun ws e=>by cases e⟩
 | wh lo hi =>
   refine⟨_,rfl,a,_,_,_,rfl,rfl,ha',i0,rfl,_,rfl,mz (show ‹"whole"› ≠ ‹"yesno"› by symm) ?_⟩
   refine⟨_,rfl,a,_,_,_,rfl,rfl,ha',i0,rfl,_,rfl,mz (show ‹"whole"› ≠ ‹"pick"› by symm) ?_⟩
   refine⟨_,rfl,a,_,_,_,rfl,rfl,ha',i0,rfl,_,rfl,mz (show ‹"whole"› ≠ ‹"names"› by symm) ?_⟩
   refine⟨_,rfl,a,_,_,_,rfl,rfl,ha',i0,rfl,_,rfl,mz (show ‹"whole"› ≠ ‹"money"› by symm) ?_⟩
   refine⟨_,rfl,a,_,_,_,rfl,rfl,ha',i1,_,rfl,a,_,_,_,rfl,rfl,ha',i2,?_⟩
   intro k dk nk ndk _
   refine⟨k,_,dk,_,_,rfl,zB,T.Hf,T.yc,T.vf,rfl,?_⟩
   rw [yH]
   exact q k _ (yC nk ndk _) ⟨dk,dk,zB,fun ws e=>by cases e⟩
end
def Yl (x:Kn) (h:Str) (m:Int):Prop:=Mf h∧match x with
 | .yn=>h=‹"="›∧0≤m∧m<2
 | .pk ws=>h=‹"="›∧0≤m∧m<ws.length
 | _=>True
def Va (x:Kn) (h:Str) (m:Int):At:=match x with
 | .yn=>.is (wdB (decide (m=1))) m
 | .pk ws=>.is ((ws[m.toNat]?).getD ‹""›) m
 | _=>.cmp h m
def ag8 (x:Kn) (h:Str) (m:Int):At:=match x with
 | .yn=>.is (wdB (decide (m=1))) m
 | _=>.cmp h m
theorem ag9 {m:Int} (h0:0≤m) (h1:m<2):m=rkB (decide (m=1)):=by
 by_cases e:m=1
 · rw [decide_eq_true e];exact e
 · rw [decide_eq_false e];show m=0;omega
theorem auw {x:Kn}{h:Str}{m:Int} (k:Yl x h m):(Va x h m).h=h∧(Va x h m).m=m:=by
 cases x with
 | yn=>exact⟨k.2.1.symm,rfl⟩
 | pk ws=>exact⟨k.2.1.symm,rfl⟩
 | _=>exact⟨rfl,rfl⟩
theorem aha {x:Kn}{h:Str}{m:Int} (o:TF x) (k:Yl x h m):Ly x (Va x h m):=by
 cases x with
 | yn=>exact⟨decide (m=1),rfl,ag9 k.2.2.1 k.2.2.2⟩
 | pk ws =>
   obtain⟨_,_,k1,k2⟩:=k
   obtain⟨n,_,_,rfl⟩:=o
   refine⟨(show W6.Nodup by symm).sublist (List.take_sublist _ _),m.toNat,?_,by omega⟩
   rw [List.getElem?_eq_getElem (by omega)]
   rfl
 | _=>exact True.intro
def adf (K:W.Frag):Sp:=fun vs H Q _=>∃ (a:Addr) (ns:List Int) (v:V) (x:Kn) (lo hi:Int),vs=[.ref a,v,.int lo,.int hi]∧bR K H a (ns.map V.int)∧KtR H v x∧TF x∧lo≤hi∧∀ t h m H',aA H H'→Yl x h m→H' t=some (.tup [.str h,.int m])→Q (.ref t) H'
def Ym (A:cM) (K:W.Frag):Sp:=fun vs H Q _=>∃ (a:Addr) (ns:List Int) (N:Nm) (v:V) (x:Kn) (ta:Addr) (h:Str) (m:Int),vs=[.ref a,.str (N 0),v,.ref ta]∧bR K H a (ns.map V.int)∧KtR H v x∧TF x∧H ta=some (.tup [.str h,.int m])∧Yl x h m ∧
 ∀ y H',aA H H'→Rt A N H' false y (Va x h m,decide (iG ns 5 % 2=1))→Q y H'
def isP:Kn→Bool
 | .yn=>true
 | .pk _=>true
 | _=>false
theorem Yn (z:Str) (x:Kn) (h:kw x=z):inV (.str (kw x)) [V.str ‹"yesno"›,V.str ‹"pick"›]=decide (z∈[‹"yesno"›,‹"pick"›]):=by
 rw [show [V.str ‹"yesno"›,V.str ‹"pick"›]=[‹"yesno"›,‹"pick"›].map V.str from rfl,Oz]
 subst h;rfl
theorem auy (x:Kn):inV (.str (kw x)) [V.str ‹"yesno"›,V.str ‹"pick"›]=isP x:=by
 cases x with
 | yn=>exact (Yn ‹"yesno"› _ rfl).trans (show decide (Str.ofString "yesno" ∈ [‹"yesno"›,‹"pick"›])=true by symm)
 | pk ws=>exact (Yn ‹"pick"› _ rfl).trans (show decide (Str.ofString "pick" ∈ [‹"yesno"›,‹"pick"›])=true by symm)
 | nm _=>exact (Yn ‹"names"› _ rfl).trans (show decide (Str.ofString "names" ∈ [‹"yesno"›,‹"pick"›])=false by symm)
 | mo _ _=>exact (Yn ‹"money"› _ rfl).trans (show decide (Str.ofString "money" ∈ [‹"yesno"›,‹"pick"›])=false by symm)
 | wh _ _=>exact (Yn ‹"whole"› _ rfl).trans (show decide (Str.ofString "whole" ∈ [‹"yesno"›,‹"pick"›])=false by symm)
section
variable {P:Program}{w:World}{K:W.Frag}{mg:Str→Option Value}{base:Heap}{A:cM}
theorem Ph (T:Txt K mg A):aG P w K mg base bQ 2 A.qU A.vP ["_law_script","_law_kind_here","_law_low","_law_high"] (adf K):=by
 have fM:=pB (P:=P) (w:=w) (base:=base) T
 refine T.Q6.ok tR (fun vs H Q E h=>?_) (fun cdv A0 outer s H vs Q E hr h=>?_)
 · obtain⟨a,ns,v,x,lo,hi,rfl,_⟩:=h
   rfl
 obtain⟨a,ns,v,x,lo,hi,rfl,hA,⟨ta,rfl,ht⟩,hK,hle,q⟩:=h
 refine⟨_,(zC (zT (i:=4) tR.nd rfl ‹0› (zU fM ‹hr› rfl T.j8 T.j7 T.j6 .nil zQ (zA (pv 0) (zA zF zD))))
     (zC (zZ (zL JC (zS zX (pv 1) zF (fun _ _=>rfl)) (yJ (zA zM (zA zM zD))) (by rfl)) (zE (zK (yA (zA zM (zA (zY yX (pv 4) (zY xE (zS zX (pv 1) zF (fun _ _=>rfl)) zF)) zD))))) zP)
     (zC (zT (i:=5) tR.nd rfl ‹0› (yJ (zA (zY rY (pv 2) zF) (zA (pv 2) (zA (zY xE (pv 2) zF) (zA (zY rY (pv 3) zF) (zA (pv 3) (zA (zY xE (pv 3) zF) (zA (zY xE (pv 2) (zY yX (zY kE (pv 4) zF) (zY xE (zY rY (pv 3) (pv 2)) zF))) (zA (zY kE (zY xE (pv 2) (pv 3)) zF) zD))))))))))
     (zE (zK (yA (zA (zS bj (yJ (zA zM (zA zM (zA zM zD)))) (zY yX (pv 4) zF) (fun _ _=>rfl)) (zA (zS bj (pv 5) (zY yX (zY kE (pv 4) zF) zF) (fun _ _=>rfl)) zD)))))))),?_⟩
 have ht':dH K H ta _:=dH.of ht
 have i0:iM [V.str (kw x),.int x.lo,.int x.hi] ((0:Nat):Int)=some (.str (kw x)):=zR rfl
 have i2:iM [V.str (kw x),.int x.lo,.int x.hi] ((2:Nat):Int)=some (.int x.hi):=zR rfl
 refine⟨_,rfl,a,ns,4,rfl,hA,?_⟩
 generalize iG ns 4=c
 dsimp only [bU,List.set_cons_succ,List.set_cons_zero]
 refine⟨_,rfl,ta,_,_,_,rfl,rfl,ht',i0,(by show 2≤sizeLine;decide),fun wl hwl=>?_⟩
 have s1:=zG hwl (.lst [.str ‹"yesno"›,.str ‹"pick"›])
 refine⟨wl,_,rfl,.inl (bR.of zB),rfl,rfl,_,rfl,?_⟩
 show if inV (.str (kw x)) [V.str ‹"yesno"›,V.str ‹"pick"›]=true then _ else _
 rw [auy]
 cases hp:isP x with
 | true =>
   have hx:0≤x.hi∧(∀ m,0≤m→m<x.hi+1→Yl x ‹"="› m):=by
     cases x with
     | yn=>exact⟨by decide,fun m h0 h1=>⟨.inr (.inl rfl),rfl,h0,by have h1:m<1+1:=h1;omega⟩⟩
     | pk ws =>
       obtain⟨n,h1,h2,rfl⟩:=hK
       have e:=t7 h2
       refine⟨?_,fun m h0 h1=>⟨.inr (.inl rfl),rfl,h0,?_⟩⟩
       · show (0:Int)≤(((W6.take n).length:Nat):Int) - 1
         rw [e];omega
       · have h1:m<(((W6.take n).length:Nat):Int) - 1+1:=h1
         omega
     | nm _=>cases hp
     | mo _ _=>cases hp
     | wh _ _=>cases hp
   have f0:=Int.emod_nonneg c (b:=x.hi+1) (by omega)
   have f1:=Int.emod_lt_of_pos c (b:=x.hi+1) (by omega)
   refine bA ⟨_,rfl,_,rfl,ta,_,_,_,rfl,rfl,s1.pH ht',i2,_,_,rfl,rfl,_,_,rfl,rfl,(by show (0:Int)<x.hi+1;omega),(by show 2≤sizeLine;decide),fun t ht=>?_⟩
   exact q t _ _ _ (s1.trans (zG ht _)) (hx.2 _ f0 f1) zB
 | false =>
   refine aF ?_
   have b0:=Int.emod_nonneg (c / 3) (b:=8) (by decide)
   have b1:=Int.emod_lt_of_pos (c / 3) (b:=8) (by decide)
   have a0:=Int.emod_nonneg c (b:=3) (by decide)
   have a1:=Int.emod_lt_of_pos c (b:=3) (by decide)
   refine⟨_,rfl,_,_,rfl,rfl,_,rfl,_,rfl,_,_,rfl,rfl,_,rfl,_,_,rfl,rfl,_,rfl,_,rfl,_,_,rfl,rfl,_,rfl,_,rfl,_,_,rfl,rfl,⟨by decide,by decide⟩,_,rfl,_,rfl,_,_,rfl,rfl,_,_,rfl,rfl,_,_,rfl,rfl,(by show (0:Int)<hi - lo+1;omega),_,_,rfl,rfl,_,rfl,_,rfl,_,_,rfl,rfl,_,_,rfl,rfl,⟨by decide,by decide⟩,(by show 8≤sizeLine;decide),fun nl hnl=>?_⟩
   obtain⟨m,hm,_⟩:=Mh (l:=[lo - 1,lo,lo+1,hi - 1,hi,hi+1,lo+c / 24 % (hi - lo+1),(lo+hi) / 2]) (i:=c / 3 % 8) b0 b1
   obtain⟨h,hh,hmem⟩:=aaC (l:=[‹"<"›,‹"="›,‹">"›]) (i:=c % 3) a0 a1
   have s2:=zG hnl (.lst ([lo - 1,lo,lo+1,hi - 1,hi,hi+1,lo+c / 24 % (hi - lo+1),(lo+hi) / 2].map V.int))
   dsimp only [bU,List.set_cons_succ,List.set_cons_zero]
   refine⟨(by show 3≤sizeLine;decide),fun hl hhl=>?_⟩
   have s3:=zG hhl (.lst ([‹"<"›,‹"="›,‹">"›].map V.str))
   refine⟨_,rfl,_,_,rfl,rfl,(by show (0:Int)<3;decide),hl,_,_,_,rfl,rfl,bR.of zB,hh,_,rfl,_,rfl,_,_,rfl,rfl,⟨by decide,by decide⟩,_,_,rfl,rfl,(by show (0:Int)<8;decide),nl,_,_,_,rfl,rfl,bR.of (s3 _ _ zB),hm,(by show 2≤sizeLine;decide),fun t ht=>?_⟩
   refine q t h m _ (((s1.trans s2).trans s3).trans (zG ht _)) ⟨?_,?_⟩ zB
   · simp only [List.mem_cons,List.not_mem_nil,or_false] at hmem
     rcases hmem with rfl | rfl | rfl
     · exact .inl rfl
     · exact .inr (.inl rfl)
     · exact .inr (.inr rfl)
   · cases x with
     | yn=>cases hp
     | pk _=>cases hp
     | _=>exact True.intro
theorem Js (T:Txt K mg A):aG P w K mg base bQ 3 A.mO A.qW ["_law_script","_law_name_here","_law_kind_here","_law_atom_here"] (Ym A K):=by
 have fM:=pB (P:=P) (w:=w) (base:=base) T
 have jg:=Hw (P:=P) (w:=w) (base:=base) T
 have lu:=Hv (P:=P) (w:=w) (base:=base) T
 have oF:=Hx (P:=P) (w:=w) (base:=base) T
 refine T.K9.ok lq (fun vs H Q E h=>?_) (fun cdv A0 outer s H vs Q E hr h=>?_)
 · obtain⟨a,ns,N,v,x,ta,h,m,rfl,_⟩:=h
   rfl
 obtain⟨a,ns,N,v,x,ta,h,m,rfl,hA,⟨kt,rfl,hk⟩,hK,ht,hm,q⟩:=h
 refine⟨_,(zC (zT (i:=4) lq.nd rfl ‹0› (xA T.Hl jg ‹hr› rfl T.JX T.nZ .nil zQ (zA (pv 1) (zA (zS zX (pv 3) zF (fun _ _=>rfl)) (zA (zS zX (pv 3) zF (fun _ _=>rfl)) zD)))))
     (zC (zZ (zL yM (zS zX (pv 2) zF (fun _ _=>rfl)) zM (zN _)) (zE (zT (i:=4) lq.nd rfl ‹0› (xA T.Xn lu ‹hr› rfl T.acz T.sZ T.tu zQ (zA (pv 1) (zA (zS bj (yJ (zA zM (zA zM zD))) (zS zX (pv 3) zF (fun _ _=>rfl)) (fun _ _=>rfl)) zD))))) zP)
     (zC (zZ (zL yM (zS zX (pv 2) zF (fun _ _=>rfl)) zM (zN _)) (zE (zT (i:=4) lq.nd rfl ‹0› (xA T.Xn lu ‹hr› rfl T.acz T.sZ T.tu zQ (zA (pv 1) (zA (zS bj (yJ (zA zM (zA zM (zA zM (zA zM (zA zM (zA zM zD))))))) (zS zX (pv 3) zF (fun _ _=>rfl)) (fun _ _=>rfl)) zD))))) zP)
     (zC (zZ (zL yM (zY yX (zU fM ‹hr› rfl T.j8 T.j7 T.j6 .nil zQ (zA (pv 0) (zA zF zD))) zF) zF (zN _)) (zE (zK (xA T.Xo oF ‹hr› rfl T.abn T.tD .nil zQ (zA (pv 4) zD)))) zP)
     (zE (zK (pv 4))))))),?_⟩
 have ht':dH K H ta _:=dH.of ht
 have hk':dH K H kt _:=dH.of hk
 have i0:iM [V.str (kw x),.int x.lo,.int x.hi] ((0:Nat):Int)=some (.str (kw x)):=zR rfl
 have j0:iM [V.str h,.int m] ((0:Nat):Int)=some (.str h):=zR rfl
 have j1:iM [V.str h,.int m] ((1:Nat):Int)=some (.int m):=zR rfl
 refine⟨_,rfl,_,rfl,ta,_,_,_,rfl,rfl,ht',j0,_,rfl,ta,_,_,_,rfl,rfl,ht',j1,?_⟩
 intro xa dx nx nd ne
 refine⟨xa,dx,_,_,_,rfl,zB,rfl,?_⟩
 rw [yH]
 have s1:=yC nx nd (oCo A dx (N 0) h m)
 have h1:(upd (upd H dx (.own xa)) xa (oCo A dx (N 0) h m)) xa=some (oCo A dx (N 0) h m):=zB
 dsimp only [bU,List.set_cons_succ,List.set_cons_zero]
 generalize upd (upd H dx (.own xa)) xa (oCo A dx (N 0) h m)=H1 at s1 h1 ⊢
 refine zj (fun σ H2=>∃ b,σ=[some (.ref a),some (.str (N 0)),some (.ref kt),some (.ref ta),some (.ref b)]∧aA H H2∧HY A N H2 false b (ag8 x h m)) ?_ ?_
 · rintro σ H2 ⟨b,rfl,s2,hb⟩
   refine zj (fun σ H2=>∃ b,σ=[some (.ref a),some (.str (N 0)),some (.ref kt),some (.ref ta),some (.ref b)]∧aA H H2∧HY A N H2 false b (Va x h m)) ?_ ?_
   · rintro σ H2 ⟨b,rfl,s2,hb⟩
     refine⟨_,rfl,a,ns,5,rfl,s2.seq hA,_,_,rfl,rfl,(by show (0:Int)<2;decide),rfl,_,rfl,?_⟩
     rw [deI]
     cases e:decide (iG ns 5 % 2=1) with
     | true =>
       rw [e] at q
       refine bA ⟨_,rfl,?_⟩
       intro z dz nz ndz nez
       refine⟨z,dz,_,rfl,zB,rfl,?_⟩
       rw [yH]
       have s3:=yC nz ndz (oNo A dz b)
       exact q (.ref z) _ (s2.trans s3) ⟨z,rfl,.inr ⟨rfl,dz,b,zB,hb.kq (.of s3)⟩⟩
     | false =>
       rw [e] at q
       exact aF ⟨_,rfl,q (.ref b) _ s2 ⟨b,rfl,.inl ⟨rfl,hb⟩⟩⟩
   · intro M hM
     refine⟨_,rfl,kt,_,_,_,rfl,rfl,s2.pH hk',i0,rfl,_,rfl,?_⟩
     cases x with
     | pk ws =>
       refine CW rfl ?_
       obtain⟨_,_,k1,k2⟩:=hm
       obtain⟨n,n1,n2,rfl⟩:=hK
       have e:=t7 n2
       refine⟨_,rfl,(by show 6≤sizeLine;decide),fun wl hwl=>?_⟩
       have s3:=zG hwl (.lst (W6.map V.str))
       have hat:iM (W6.map V.str) m=some (.str (((W6.take n)[m.toNat]?).getD ‹""›)):=by
         obtain⟨v,hv,hv2⟩:=qy (l:=W6.map V.str) (i:=m) k1 (by rw [List.length_map];show m<6;omega)
         obtain⟨z,hz,rfl⟩:=oO hv2
         rw [hv,List.getElem?_take_of_lt (by omega),hz];rfl
       refine⟨_,rfl,ta,_,_,_,rfl,rfl,(s2.trans s3).pH ht',j1,wl,_,_,_,rfl,rfl,bR.of zB,hat,?_⟩
       intro z dz nz ndz nez
       refine⟨z,dz,_,_,_,rfl,zB,rfl,?_⟩
       rw [yH]
       exact hM _ _ ⟨z,rfl,(s2.trans s3).trans (yC nz ndz _),dz,zB⟩
     | yn=>exact mz (show ‹"yesno"› ≠ ‹"pick"› by symm) (hM _ _ ⟨b,rfl,s2,hb⟩)
     | nm _=>exact mz (show ‹"names"› ≠ ‹"pick"› by symm) (hM _ _ ⟨b,rfl,s2,hb⟩)
     | mo _ _=>exact mz (show ‹"money"› ≠ ‹"pick"› by symm) (hM _ _ ⟨b,rfl,s2,hb⟩)
     | wh _ _=>exact mz (show ‹"whole"› ≠ ‹"pick"› by symm) (hM _ _ ⟨b,rfl,s2,hb⟩)
 · intro M hM
   refine⟨_,rfl,kt,_,_,_,rfl,rfl,s1.pH hk',i0,rfl,_,rfl,?_⟩
   cases x with
   | yn =>
     refine CW rfl ?_
     obtain⟨_,_,k1,k2⟩:=hm
     refine⟨_,rfl,(by show 2≤sizeLine;decide),fun wl hwl=>?_⟩
     have s3:=zG hwl (.lst [.str ‹"no"›,.str ‹"yes"›])
     have hat:iM [V.str ‹"no"›,V.str ‹"yes"›] m=some (.str (wdB (decide (m=1)))):=by
       have:m=0∨m=1:=by omega
       rcases this with rfl | rfl
       · exact zR (j:=0) rfl
       · exact zR (j:=1) rfl
     refine⟨_,rfl,ta,_,_,_,rfl,rfl,(s1.trans s3).pH ht',j1,wl,_,_,_,rfl,rfl,bR.of zB,hat,?_⟩
     intro z dz nz ndz nez
     refine⟨z,dz,_,_,_,rfl,zB,rfl,?_⟩
     rw [yH]
     exact hM _ _ ⟨z,rfl,(s1.trans s3).trans (yC nz ndz _),dz,zB⟩
   | pk _=>exact mz (show ‹"pick"› ≠ ‹"yesno"› by symm) (hM _ _ ⟨xa,rfl,s1,dx,h1⟩)
   | nm _=>exact mz (show ‹"names"› ≠ ‹"yesno"› by symm) (hM _ _ ⟨xa,rfl,s1,dx,h1⟩)
   | mo _ _=>exact mz (show ‹"money"› ≠ ‹"yesno"› by symm) (hM _ _ ⟨xa,rfl,s1,dx,h1⟩)
   | wh _ _=>exact mz (show ‹"whole"› ≠ ‹"yesno"› by symm) (hM _ _ ⟨xa,rfl,s1,dx,h1⟩)
end
def tpT (e:List V):Tr:=.tup (e.map Tr.leaf)
def rR (N:Nm) (kn:Option Bool) (dn:Bool):List (List V):=[gn (N 0)]++(if kn=some (!dn) then [gn (N 1)] else [])++(if kn=none then [] else [Hz])
def wL (N:Nm) (kn:Option Bool) (dn:Bool) (sp:jf):List (List V):=[[.str (N 0),.int 0,.int sp.1,.int sp.2]]++(if kn=some (!dn) then [[.str (N 1),.int 0,.int 0,.int 1]] else [])
def HF (N:Nm) (kn:Option Bool) (dn:Bool) (sp:jf):Tr:=.tup [.leaf (.str ‹"leaf"›),.leaf (.bl (!decide (kn=none))),.lst ((rR N kn dn).map tpT),.lst ((wL N kn dn sp).map tpT),.lst []]
def NmR (H:Hp) (nl:Addr) (N:Nm):Prop:=H nl=some (.lst [.str (N 0),.str (N 1)])
def adh:Sp:=fun vs H Q _=>∃ (nl:Addr) (N:Nm) (kn:Option Bool) (dn:Bool) (sp:jf),vs=[.ref nl,tv kn,.bl dn,.int sp.1,.int sp.2]∧NmR H nl N∧∀ x H',aA H H'→fG (fun a=>H a=none) H' 3 x (HF N kn dn sp)→Q x H'
structure Vb (H0 H:Hp) (a b:Addr) (L R:List (List V)):Prop where
 same:aA H0 H
 na:H0 a=none
 nb:H0 b=none
 ab:a≠b
 la:∃ ts,H a=some (.lst ts)∧Paired (jB H) ts L
 lb:∃ ts,H b=some (.lst ts)∧Paired (jB H) ts R
theorem Vb.mono {H0 H H':Hp}{a b:Addr}{L R:List (List V)} (h:Vb H0 H a b L R) (s:aA H H'):Vb H0 H' a b L R:=by
 obtain⟨h1,h2,h3,h4,⟨t,h5,h6⟩,⟨u,h7,h8⟩⟩:=h
 exact⟨h1.trans s,h2,h3,h4,⟨t,s _ _ h5,zH h6 fun _ _=>jB.kq (.of s)⟩,⟨u,s _ _ h7,zH h8 fun _ _=>jB.kq (.of s)⟩⟩
theorem Vb.adi {H0 H:Hp}{a b:Addr}{L R:List (List V)} (h:Vb H0 H a b L R) {ts:List V} (ha:H a=some (.lst ts)) {t:Addr}{e:List V} (ht:H t=some (.tup e)):Vb H0 (upd H a (.lst (ts++[.ref t]))) a b (L++[e]) R:=by
 obtain⟨h1,h2,h3,h4,⟨t',h5,h6⟩,⟨u,h7,h8⟩⟩:=h
 rw [ha] at h5;cases h5
 refine⟨qt h1 h2 _,h2,h3,h4,⟨_,zB,xH (LK ha (fun _ z=>by cases z) h6) (.cons ⟨t,rfl,?_⟩ .nil)⟩,⟨u,?_,LK ha (fun _ z=>by cases z) h8⟩⟩
 · rw [zI (yN ht ha (by intro z;cases z))];exact ht
 · rw [zI (Ne.symm h4)];exact h7
theorem Vb.swap {H0 H:Hp}{a b:Addr}{L R:List (List V)} (h:Vb H0 H a b L R):Vb H0 H b a R L:=⟨h.same,h.nb,h.na,Ne.symm h.ab,h.lb,h.la⟩
theorem Et {F:Addr→Prop}{H:Hp}{n:Nat}:∀ {ts:List V}{L:List (List V)},Paired (jB H) ts L→(∀ e∈L,e.length≤1000∧∀ v∈e,mG v)→Paired (fG F H (n+1)) ts (L.map tpT):=by
 intro ts L h
 induction h with
 | nil=>intro _;exact .nil
 | @cons a e _ _ r _ ih =>
   intro hf
   obtain⟨ta,rfl,ht⟩:=r
   have he:=hf e List.mem_cons_self
   exact .cons ⟨ta,e,rfl,ht,he.1,pC he.2⟩ (ih fun e' h'=>hf e' (List.mem_cons_of_mem _ h'))
theorem ahc {z n:Str}{i:Int}:∀ v∈[V.str z,.str n,.int i],mG v:=by
 intro v hv
 simp only [List.mem_cons,List.not_mem_nil,or_false] at hv
 rcases hv with rfl | rfl | rfl <;> trivial
theorem abx {n:Str}{i j k:Int}:∀ v∈[V.str n,.int i,.int j,.int k],mG v:=by
 intro v hv
 simp only [List.mem_cons,List.not_mem_nil,or_false] at hv
 rcases hv with rfl | rfl | rfl | rfl <;> trivial
theorem aaE:∀ v∈Hz,mG v:=by
 intro v hv
 rw [List.mem_singleton.mp hv];trivial
theorem Mj (N:Nm) (kn:Option Bool) (dn:Bool):(rR N kn dn).length≤3∧∀ e∈rR N kn dn,e.length≤1000∧∀ v∈e,mG v:=by
 unfold rR
 refine⟨?_,fun e he=>?_⟩
 · split <;> split <;> simp
 · have h3:∀ n,(gn n).length≤1000∧∀ v∈gn n,mG v:=fun n=>⟨(by show 3≤1000;decide),ahc⟩
   have h1:Hz.length≤1000∧∀ v∈Hz,mG v:=⟨(by show 1≤1000;decide),aaE⟩
   rcases List.mem_append.mp he with he | he
   · rcases List.mem_append.mp he with he | he
     · rw [List.mem_singleton.mp he];exact h3 _
     · split at he
       · rw [List.mem_singleton.mp he];exact h3 _
       · cases he
   · split at he
     · cases he
     · rw [List.mem_singleton.mp he];exact h1
theorem Yo (N:Nm) (kn:Option Bool) (dn:Bool) (sp:jf):(wL N kn dn sp).length≤2∧∀ e∈wL N kn dn sp,e.length≤1000∧∀ v∈e,mG v:=by
 unfold wL
 refine⟨?_,fun e he=>?_⟩
 · split <;> simp
 · rcases List.mem_append.mp he with he | he
   · rw [List.mem_singleton.mp he];exact⟨(by show 4≤1000;decide),abx⟩
   · split at he
     · rw [List.mem_singleton.mp he];exact⟨(by show 4≤1000;decide),abx⟩
     · cases he
section
variable {P:Program}{w:World}{K:W.Frag}{mg:Str→Option Value}{base:Heap}{A:cM}
theorem Pj (T:Txt K mg A):aG P w K mg base bQ 1 A.qX A.vQ ["_law_names","_law_known","_law_denied","_law_low","_law_high"] adh:=by
 refine T.Ra.ok tU (fun vs H Q E h=>?_) (fun cdv A0 outer s H vs Q E hr h=>?_)
 · obtain⟨nl,N,kn,dn,sp,rfl,_⟩:=h
   rfl
 obtain⟨nl,N,kn,dn,sp,rfl,hN,q⟩:=h
 refine⟨_,(zC (zT (i:=5) tU.nd rfl ‹0› (yJ (zA (yA (zA zM (zA (zS bj (pv 0) zF (fun _ _=>rfl)) (zA zF zD)))) zD)))
     (zC (zT (i:=6) tU.nd rfl ‹0› (yJ (zA (yA (zA (zS bj (pv 0) zF (fun _ _=>rfl)) (zA zF (zA (pv 3) (zA (pv 4) zD))))) zD)))
     (zC (zZ (PW.pt (xI (zL wO (pv 1) yQ (zN _)) (yY (zL VG (pv 1) (pv 2) (zN _))))) (zC (yG (mC PySem.F.plainAttrs_list PySem.F.slot_list_append PySem.F.type_list_append yU (pv 5) (zA (yA (zA zM (zA (zS bj (pv 0) zF (fun _ _=>rfl)) (zA zF zD)))) zD)))
     (zE (yG (mC PySem.F.plainAttrs_list PySem.F.slot_list_append PySem.F.type_list_append yU (pv 6) (zA (yA (zA (zS bj (pv 0) zF (fun _ _=>rfl)) (zA zF (zA zF (zA zF zD))))) zD))))) zP)
     (zC (zZ (zL wO (pv 1) yQ (zN _)) (zE (yG (mC PySem.F.plainAttrs_list PySem.F.slot_list_append PySem.F.type_list_append yU (pv 5) (zA (yA (zA zM zD)) zD)))) zP)
     (zE (zK (yA (zA zM (zA (xF wO (pv 1) yQ (zN _)) (zA (pv 5) (zA (pv 6) (zA (yJ zD) zD)))))))))))),?_⟩
 have n0:iM [V.str (N 0),.str (N 1)] ((0:Nat):Int)=some (.str (N 0)):=zR rfl
 have n1:iM [V.str (N 0),.str (N 1)] ((1:Nat):Int)=some (.str (N 1)):=zR rfl
 refine⟨_,rfl,nl,_,_,_,rfl,rfl,bR.of hN,n0,(by show 3≤sizeLine;decide),fun t1 ht1=>?_⟩
 have s1:=zG ht1 (.tup (gn (N 0)))
 refine⟨(by show 1≤sizeLine;decide),fun lg RQ=>?_⟩
 have s2:=zG RQ (.lst [.ref t1])
 refine⟨_,rfl,nl,_,_,_,rfl,rfl,bR.of ((s1.trans s2) _ _ hN),n0,_,rfl,_,rfl,(by show 4≤sizeLine;decide),fun t2 Lz=>?_⟩
 have s3:=zG Lz (.tup [.str (N 0),.int 0,.int sp.1,.int sp.2])
 refine⟨(by show 1≤sizeLine;decide),fun rl hrl=>?_⟩
 have s4:=zG hrl (.lst [.ref t2])
 have W:Vb H (upd (upd (upd (upd H t1 (.tup [.str ‹"ask"›,.str (N 0),.int 0])) lg (.lst [.ref t1])) t2 (.tup [.str (N 0),.int 0,.int sp.1,.int sp.2])) rl (.lst [.ref t2])) lg rl [gn (N 0)] [[.str (N 0),.int 0,.int sp.1,.int sp.2]]:=by
   refine⟨((s1.trans s2).trans s3).trans s4,yE s1 RQ,yE ((s1.trans s2).trans s3) hrl,zJ (s3 _ _ zB) hrl,⟨_,s4 _ _ (s3 _ _ zB),.cons ⟨t1,rfl,s4 _ _ (s3 _ _ (s2 _ _ zB))⟩ .nil⟩,⟨_,zB,.cons ⟨t2,rfl,s4 _ _ zB⟩ .nil⟩⟩
 dsimp only [bU,List.set_cons_succ,List.set_cons_zero]
 generalize upd (upd (upd (upd H t1 (HO.tup [.str ‹"ask"›,.str (N 0),.int 0])) lg (HO.lst [.ref t1])) t2 (HO.tup [.str (N 0),.int 0,.int sp.1,.int sp.2])) rl (HO.lst [.ref t2])=H4 at W ⊢
 refine zj (fun σ H5=>σ=[some (.ref nl),some (tv kn),some (.bl dn),some (.int sp.1),some (.int sp.2),some (.ref lg),some (.ref rl)]∧Vb H H5 lg rl ([gn (N 0)]++(if kn=some (!dn) then [gn (N 1)] else [])) (wL N kn dn sp)) ?_ ?_
 · rintro σ H5 ⟨rfl,W⟩
   refine zj (fun σ H5=>σ=[some (.ref nl),some (tv kn),some (.bl dn),some (.int sp.1),some (.int sp.2),some (.ref lg),some (.ref rl)]∧Vb H H5 lg rl (rR N kn dn) (wL N kn dn sp)) ?_ ?_
   · rintro σ H6 ⟨rfl,W⟩
     refine⟨_,rfl,rfl,_,rfl,_,rfl,(by show 0≤sizeLine;decide),fun el hel=>?_⟩
     have s5:=zG hel (.lst [])
     refine⟨(by show 5≤sizeLine;decide),fun p hp=>?_⟩
     have s6:=zG hp (.tup [.str ‹"leaf"›,.bl (!decide (tv kn=.non)),.ref lg,.ref rl,.ref el])
     have W7:=(W.mono s5).mono s6
     obtain⟨ts,a1,a2⟩:=W7.la
     obtain⟨us,b1,b2⟩:=W7.lb
     obtain⟨l1,l2⟩:=Mj N kn dn
     obtain⟨r1,r2⟩:=Yo N kn dn sp
     have eb:(!decide (tv kn=V.non))=(!decide (kn=none)):=by cases kn <;> rfl
     rw [eb] at s6 W7 a1 a2 b1 b2 ⊢
     refine q (.ref p) _ W7.same ⟨p,_,rfl,zB,(by show 5≤1000;decide),.cons ⟨rfl,trivial⟩ (.cons ⟨rfl,trivial⟩ (.cons ⟨lg,ts,rfl,a1,by rw [zV a2];omega,Et a2 l2,W7.na⟩ (.cons ⟨rl,us,rfl,b1,by rw [zV b2];omega,Et b2 r2,W7.nb⟩ (.cons ⟨el,[],rfl,s6 _ _ zB,Nat.zero_le _,.nil,yE W.same hel⟩ .nil))))⟩
   · intro M hM
     cases kn with
     | none =>
       refine⟨_,rfl,rfl,_,rfl,aF (hM _ _ ⟨rfl,?_⟩)⟩
       unfold rR
       rw [if_pos rfl,List.append_nil];exact W
     | some b =>
       obtain⟨ts,a1,a2⟩:=W.la
       have tl:=zV a2
       have tl2:ts.length≤2:=by rw [tl];split <;> simp
       refine⟨_,rfl,rfl,_,rfl,bA ⟨_,rfl,.inl ⟨rfl,_,bR.of a1⟩,(by show 1≤sizeLine;decide),fun t3 ht3=>?_⟩⟩
       have s5:=zG ht3 (.tup Hz)
       refine⟨lg,_,_,rfl,rfl,s5 _ _ a1,yK (m:=1000) (by omega),hM _ _ ⟨rfl,?_⟩⟩
       unfold rR
       rw [if_neg (show ¬ (some b=none) from nofun)]
       exact (W.mono s5).adi (s5 _ _ a1) zB
 · intro M hM
   cases kn with
   | none =>
     refine⟨_,rfl,rfl,_,rfl,aF (aF (hM _ _ ⟨rfl,?_⟩))⟩
     unfold wL
     rw [if_neg (show ¬ (none=some (!dn)) from nofun),if_neg (show ¬ (none=some (!dn)) from nofun)];exact W
   | some b =>
     refine⟨_,rfl,rfl,_,rfl,bA ⟨_,rfl,_,rfl,rfl,_,rfl,?_⟩⟩
     have ed:(!decide (tv (some b)=V.bl dn))=decide (some b=some (!dn)):=by cases b <;> cases dn <;> rfl
     rw [ed]
     refine lC (fun c=>?_) (fun c=>?_)
     · have c:=of_decide_eq_true c
       obtain⟨ts,a1,a2⟩:=W.la
       have tl:ts.length=1:=zV a2
       refine⟨_,rfl,.inl ⟨rfl,_,bR.of a1⟩,_,rfl,nl,_,_,_,rfl,rfl,bR.of (W.same _ _ hN),n1,(by show 3≤sizeLine;decide),fun t3 ht3=>?_⟩
       have s5:=zG ht3 (.tup (gn (N 1)))
       refine⟨lg,_,_,rfl,rfl,s5 _ _ a1,yK (m:=1000) (by omega),?_⟩
       have W5:Vb H (upd (upd H4 t3 (.tup [.str ‹"ask"›,.str (N 1),.int 0])) lg (.lst (ts++[.ref t3]))) lg rl ([gn (N 0)]++[gn (N 1)]) _:=(W.mono s5).adi (s5 _ _ a1) (show _=some (.tup (gn (N 1))) from zB)
       generalize upd (upd H4 t3 (HO.tup [.str ‹"ask"›,.str (N 1),.int 0])) lg (HO.lst (ts++[.ref t3]))=H5 at W5 ⊢
       obtain⟨us,b1,b2⟩:=W5.lb
       have tl:us.length=1:=zV b2
       refine⟨_,rfl,.inl ⟨rfl,_,bR.of b1⟩,_,rfl,nl,_,_,_,rfl,rfl,bR.of (W5.same _ _ hN),n1,(by show 4≤sizeLine;decide),fun t4 ht4=>?_⟩
       have s6:=zG ht4 (.tup [.str (N 1),.int 0,.int 0,.int 1])
       refine⟨rl,_,_,rfl,rfl,s6 _ _ b1,yK (m:=1000) (by omega),hM _ _ ⟨rfl,?_⟩⟩
       unfold wL
       rw [if_pos c,if_pos c]
       exact ((W5.mono s6).swap.adi (s6 _ _ b1) zB).swap
     · refine hM _ _ ⟨rfl,?_⟩
       have c:¬ (some b=some (!dn)):=fun z=>c (decide_eq_true z)
       unfold wL
       rw [if_neg c,if_neg c];exact W
end
def HH (N:Nm) (cut:Int) (n:Nat):Tr:=tpT [.str ‹"split"›,.str (N 0),.int 0,.int cut,.int (n:Nat),.int ((n:Nat)+1:Int)]
inductive Nd where
 | sp (cut:Int) (n:Nat) | lf (s:jf)
def PX (N:Nm) (t:At) (dn:Bool):Nd→Tr
 | .sp c n=>HH N c n
 | .lf s=>HF N (kh s t.h t.m) dn s
inductive NF (t:At) (mo:Nat):List jf→List Nd→Nat→List Nd→Prop
 | done {sp:List jf}{nd:List Nd}{k:Nat}:sp.length≤nd.length→NF t mo sp nd k nd
 | split {sp:List jf}{nd:List Nd}{k:Nat}{out:List Nd}{s:jf}:sp[nd.length]? = some s→kh s t.h t.m=none→k<mo→NF t mo (sp++[(s.1,kj t s.1),(kj t s.1+1,s.2)]) (nd++[.sp (kj t s.1) sp.length]) (k+1) out→NF t mo sp nd k out
 | leaf {sp:List jf}{nd:List Nd}{k:Nat}{out:List Nd}{s:jf}:sp[nd.length]? = some s→¬ (kh s t.h t.m=none∧k<mo)→NF t mo sp (nd++[.lf s]) k out→NF t mo sp nd k out
theorem TJ (t:At) (mo:Nat):∀ (m:Nat) (sp:List jf) (nd:List Nd) (k:Nat),2*(mo - k)+(sp.length - nd.length)≤m→∃ out,NF t mo sp nd k out
 | 0,sp,nd,k,h=>⟨_,.done (by omega)⟩
 | m+1,sp,nd,k,h=>by
   by_cases e:sp.length≤nd.length
   · exact⟨_,.done e⟩
   obtain⟨s,hs⟩:∃ s,sp[nd.length]? = some s:=⟨_,List.getElem?_eq_getElem (by omega)⟩
   by_cases c:kh s t.h t.m=none∧k<mo
   · obtain⟨out,ho⟩:=TJ t mo m (sp++[(s.1,kj t s.1),(kj t s.1+1,s.2)]) (nd++[.sp (kj t s.1) sp.length]) (k+1) (by
       simp only [List.length_append,List.length_cons,List.length_nil];omega)
     exact⟨out,.split hs c.1 c.2 ho⟩
   · obtain⟨out,ho⟩:=TJ t mo m sp (nd++[.lf s]) k (by
       simp only [List.length_append,List.length_cons,List.length_nil];omega)
     exact⟨out,.leaf hs c ho⟩
theorem RT {t:At}{s:jf} (hw:Mf t.h) (hle:s.1≤s.2) (hn:kh s t.h t.m=none):s.1≤kj t s.1∧kj t s.1+1≤s.2:=by
 obtain⟨lo,hi⟩:=s
 have hle:lo≤hi:=hle
 unfold kj
 dsimp only
 generalize t.h=h at hw hn ⊢
 generalize t.m=m at hn ⊢
 rcases hw with rfl | rfl | rfl
 · rw [if_pos (show ‹"<"› = ‹"<"› from rfl)]
   rw [Yi hle] at hn
   split at hn
   · cases hn
   · split at hn
     · cases hn
     · omega
 · rw [if_neg (show ‹"="› ≠ ‹"<"› by symm),if_neg (show ‹"="› ≠ ‹">"› by symm)]
   rw [Yk hle] at hn
   unfold RG
   split at hn
   · cases hn
   · split at hn
     · cases hn
     · split <;> omega
 · rw [if_neg (show ‹">"› ≠ ‹"<"› by symm),if_pos (show ‹">"› = ‹">"› from rfl)]
   rw [Yj hle] at hn
   split at hn
   · cases hn
   · split at hn
     · cases hn
     · omega
theorem aby {t:At}{mo:Nat} (hw:Mf t.h) {lo hi:Int}{sp:List jf}{nd out:List Nd}{k:Nat} (h:NF t mo sp nd k out):(∀ s∈sp,lo≤s.1∧s.1≤s.2∧s.2≤hi)→(∀ s,Nd.lf s∈nd→lo≤s.1∧s.1≤s.2∧s.2≤hi)→∀ s,Nd.lf s∈out→lo≤s.1∧s.1≤s.2∧s.2≤hi:=by
 induction h with
 | done _=>intro _ h;exact h
 | @split sp nd k out s h1 h2 _ _ ih =>
   intro ha hb
   have hs:=ha s (List.mem_of_getElem? h1)
   have hc:=RT hw hs.2.1 h2
   refine ih (fun s' h'=>?_) (fun s' h'=>?_)
   · rcases List.mem_append.mp h' with h' | h'
     · exact ha s' h'
     · simp only [List.mem_cons,List.not_mem_nil,or_false] at h'
       rcases h' with rfl | rfl
       · exact⟨hs.1,hc.1,by show kj t s.1≤hi;omega⟩
       · exact⟨by show lo≤kj t s.1+1;omega,hc.2,hs.2.2⟩
   · rcases List.mem_append.mp h' with h' | h'
     · exact hb s' h'
     · cases List.mem_singleton.mp h'
 | @leaf sp nd k out s h1 _ _ ih =>
   intro ha hb
   refine ih ha (fun s' h'=>?_)
   rcases List.mem_append.mp h' with h' | h'
   · exact hb s' h'
   · cases List.mem_singleton.mp h';exact ha s (List.mem_of_getElem? h1)
def ahf:Nd→Bool
 | .sp _ _=>true
 | .lf _=>false
theorem aaG {t:At}{mo:Nat}{sp:List jf}{nd out:List Nd}{k:Nat} (h:NF t mo sp nd k out):nd.countP ahf≤k→1+2*k≤sp.length→∃ s,Nd.lf s∈out:=by
 induction h with
 | @done sp nd k h =>
   intro h1 h2
   by_cases e:∀ a∈nd,ahf a=true
   · have:=List.countP_eq_length.mpr e
     omega
   · obtain⟨a,ha⟩:=Classical.not_forall.mp e
     obtain⟨hm,hn⟩:=Classical.not_imp.mp ha
     cases a with
     | sp c n=>exact absurd rfl hn
     | lf s=>exact⟨s,hm⟩
 | split _ _ _ _ ih =>
   intro h1 h2
   refine ih ?_ ?_
   · rw [List.countP_append];show _+1≤_;omega
   · rw [List.length_append];show _≤_+2;omega
 | leaf _ _ _ ih =>
   intro h1 h2
   refine ih ?_ h2
   rw [List.countP_append];show _+0≤_;omega
structure Ky (M:List Addr) (Hc H:Hp):Prop where
 fr:Fr M Hc H
 dm:∀ a,H a=none→Hc a=none
theorem Ky.same {M:List Addr}{Hc H H':Hp} (k:Ky M Hc H) (s:aA H H'):Ky M Hc H':=⟨k.fr.trans (Fr.of s),fun a h=>k.dm a (yE s h)⟩
theorem Ky.upd {M:List Addr}{Hc H:Hp} (k:Ky M Hc H) {m:Addr} (h:m∈M) (o:HO):Ky M Hc (L2.upd H m o):=⟨k.fr.upd h o,fun a e=>k.dm a (lK e).2⟩
theorem Ml {F:Addr→Prop}{H:Hp}{nl:Addr}{nx:List V}{nd:List Tr}{x:V}{t:Tr}{n:Nat} (hn:H nl=some (.lst nx)) (hF:¬ F nl) (hp:Paired (fG F H n) nx nd) (hx:fG F H n x t):Paired (fG F (upd H nl (.lst (nx++[x]))) n) (nx++[x]) (nd++[t]):=xH (zH hp fun _ _ z=>fG.upd hn hF z) (.cons (fG.upd hn hF hx) .nil)
def SpR (H:Hp) (x:V) (s:jf):Prop:=jB H x [.int s.1,.int s.2]
theorem Yp {H:Hp}{m:Addr}{o:HO}{l:List V}{sx:List V}{sp:List jf} (hm:H m=some (.lst l)) (h:Paired (SpR H) sx sp):Paired (SpR (upd H m o)) sx sp:=zH h fun _ _ z=>RC hm (fun _ z=>by cases z) z
theorem Mm {H H':Hp} (s:aA H H') {sx:List V}{sp:List jf} (h:Paired (SpR H) sx sp):Paired (SpR H') sx sp:=zH h fun _ _ z=>jB.kq (.of s) z
theorem adk {i j l:Nat}{σ:St}{H:Hp}{kn:Option Bool}{k m:Int}{Q:Bool→Hp→Prop} (h1:σ[i]? = some (some (tv kn))) (h2:σ[j]? = some (some (.int k))) (h3:σ[l]? = some (some (.int m))) (q:Q (decide (kn=none) && decide (k<m)) H) :
   T7 (rD (PK (fun x y H Q=>y=V.non∧Q (.bl (decide (x=V.non))) H) (mJ i) (tC .non))) (rD (PK (Sw fun i j=>.bl (decide (i<j))) (mJ j) (mJ l))) σ H Q:=by
 refine⟨_,h1,rfl,_,rfl,?_⟩
 cases kn with
 | none=>exact bA ⟨_,h2,_,h3,_,_,rfl,rfl,_,rfl,q⟩
 | some b=>exact aF q
def aaH:Sp:=fun vs H Q _=>∃ (nml:Addr) (N:Nm) (ta:Addr) (t:At) (dn:Bool) (st:Addr) (s:jf) (mo:Nat) (out:List Nd),vs=[.ref nml,.ref ta,.bl dn,.ref st,.int (mo:Nat)]∧NmR H nml N∧H ta=some (.tup [.str t.h,.int t.m])∧Mf t.h∧H st=some (.tup [.int s.1,.int s.2])∧s.1≤s.2∧mo≤64∧NF t mo [s] [] 0 out ∧
 ∀ p H',aA H H'→fG (fun a=>H a=none) H' 4 (.ref p) (.lst (out.map (PX N t dn)))→Q (.ref p) H'
theorem abz {a b:Str}{i j k l:Int}:∀ v∈[V.str a,.str b,.int i,.int j,.int k,.int l],mG v:=by
 intro v hv
 simp only [List.mem_cons,List.not_mem_nil,or_false] at hv
 rcases hv with rfl | rfl | rfl | rfl | rfl | rfl <;> trivial
section
variable {P:Program}{w:World}{K:W.Frag}{mg:Str→Option Value}{base:Heap}{A:cM}
theorem Mp (T:Txt K mg A):aG P w K mg base bQ 2 A.oZ A.sU ["_law_names","_law_atom_here","_law_denied","_law_span","_law_most"] aaH:=by
 have Pk:=Mg (P:=P) (w:=w) (base:=base) T
 have Vc:=RP (P:=P) (w:=w) (base:=base) T
 have RV:=Pj (P:=P) (w:=w) (base:=base) T
 refine T.Oh.ok dG (fun vs H Q E h=>?_) (fun cdv A0 outer s H vs Q E hr h=>?_)
 · obtain⟨nml,N,ta,t,dn,st,s,mo,out,rfl,_⟩:=h
   rfl
 obtain⟨nml,N,ta,t,dn,st,s,mo,out,rfl,hN,Vn,hw,hst,hle,hmo,RW,q⟩:=h
 refine⟨_,(zC (zT (i:=5) dG.nd rfl ‹0› (yJ (zA (pv 3) zD)))
     (zC (zT (i:=6) dG.nd rfl ‹0› (yJ zD))
     (zC (zT (i:=7) dG.nd rfl ‹0› zF)
     (zC (Ab PassesOwn.never (zL oM (zW yB (by rfl) T.jC PySem.boot_len (zA (pv 6) zD)) (zW yB (by rfl) T.jC PySem.boot_len (zA (pv 5) zD)) (zN _)) (zC (abQ (zS bj (pv 5) (zW yB (by rfl) T.jC PySem.boot_len (zA (pv 6) zD)) (fun _ _=>rfl)) (Kc rfl (xN (yP (i:=8) dG.nd rfl ‹0›) (xN (yP (i:=9) dG.nd rfl ‹0›) Ek))))
     (zC (zT (i:=10) dG.nd rfl ‹0› (zU Pk ‹hr› rfl T.Oe T.Od T.Oc .nil zQ (zA (zS zX (pv 1) zF (fun _ _=>rfl)) (zA (pv 8) (zA (pv 9) (zA (zS zX (pv 1) zF (fun _ _=>rfl)) zD))))))
     (zE (zZ (PW.pt (xI (zL xS (pv 10) yQ (zN _)) (yY (zL oM (pv 7) (pv 4) (zN _))))) (zC (zT (i:=11) dG.nd rfl ‹0› (zU Vc ‹hr› rfl T.U0 T.UW T.UT .nil zQ (zA (zS zX (pv 1) zF (fun _ _=>rfl)) (zA (pv 8) (zA (zS zX (pv 1) zF (fun _ _=>rfl)) zD)))))
     (zC (yG (mC PySem.F.plainAttrs_list PySem.F.slot_list_append PySem.F.type_list_append yU (pv 6) (zA (yA (zA zM (zA (zS bj (pv 0) zF (fun _ _=>rfl)) (zA zF (zA (pv 11) (zA (zW yB (by rfl) T.jC PySem.boot_len (zA (pv 5) zD)) (zA (zY xE (zW yB (by rfl) T.jC PySem.boot_len (zA (pv 5) zD)) zF) zD))))))) zD)))
     (zC (zT (i:=5) dG.nd rfl ‹0› (zY V4 (pv 5) (yJ (zA (yA (zA (pv 8) (zA (pv 11) zD))) (zA (yA (zA (zY xE (pv 11) zF) (zA (pv 9) zD))) zD)))))
     (zE (zT (i:=7) dG.nd rfl ‹0› (zY xE (pv 7) zF)))))) (zE (yG (mC PySem.F.plainAttrs_list PySem.F.slot_list_append PySem.F.type_list_append yU (pv 6) (zA (zU RV ‹hr› rfl T.Rf T.Rc T.Rb .nil zQ (zA (pv 0) (zA (pv 10) (zA (pv 2) (zA (pv 8) (zA (pv 9) zD)))))) zD)))))))))
     (zE (zK (pv 6))))))),?_⟩
 have n0:iM [V.str (N 0),.str (N 1)] ((0:Nat):Int)=some (.str (N 0)):=zR rfl
 have j0:iM [V.str t.h,.int t.m] ((0:Nat):Int)=some (.str t.h):=zR rfl
 have j1:iM [V.str t.h,.int t.m] ((1:Nat):Int)=some (.int t.m):=zR rfl
 refine⟨_,rfl,(by show 1≤sizeLine;decide),fun sl hsl=>?_⟩
 have s1:=zG hsl (.lst [.ref st])
 refine⟨(by show 0≤sizeLine;decide),fun nl hnl=>?_⟩
 have s2:=zG hnl (.lst [])
 have ahg:=s2 _ _ (show (upd H sl (.lst [.ref st])) sl=some (.lst [.ref st]) from zB)
 have Mq:(upd (upd H sl (.lst [.ref st])) nl (.lst [])) nl=some (.lst []):=zB
 have s12:=s1.trans s2
 have nn1:=yE s1 hnl
 have nsn:sl≠nl:=zJ (show (upd H sl (.lst [.ref st])) sl=some _ from zB) hnl
 dsimp only [bU,List.set_cons_succ,List.set_cons_zero]
 generalize upd (upd H sl (HO.lst [.ref st])) nl (HO.lst [])=Hc at s12 ahg Mq ⊢
 have nF:¬ (fun a=>Hc a=none) nl:=fun z=>by rw [show Hc nl=none from z] at Mq;cases Mq
 have auz:nml≠nl:=zJ hN nn1
 have nta:ta≠nl:=zJ Vn nn1
 refine⟨fun m σ H'=>∃ sl sx nx u8 u9 Y7 Y8 sp nd,∃ k:Nat,σ=[some (.ref nml),some (.ref ta),some (.bl dn),some (.ref st),some (.int (mo:Nat)),some (.ref sl),some (.ref nl),some (.int (k:Nat)),u8,u9,Y7,Y8]∧Ky [nl] Hc H'∧sl≠nl∧H' sl=some (.lst sx)∧Paired (SpR H') sx sp∧H' nl=some (.lst nx)∧Paired (fG (fun a=>Hc a=none) H' 3) nx (nd.map (PX N t dn))∧nd.length≤sp.length∧sp.length≤1+2*k∧k≤mo∧(∀ s∈sp,s.1≤s.2)∧NF t mo sp nd k out∧m=2*(mo - k)+(sp.length - nd.length),
   ⟨_,sl,[.ref st],[],_,_,_,_,[s],[],0,rfl,⟨Fr.of (aA.refl _),fun _ z=>z⟩,nsn,ahg,.cons ⟨st,rfl,s12 _ _ hst⟩ .nil,Mq,.nil,Nat.zero_le _,Nat.le_refl _,Nat.zero_le _,fun s' h'=>by rw [List.mem_singleton.mp h'];exact hle,RW,rfl⟩,?_⟩
 rintro m σ H1 ⟨sl,sx,nx,u8,u9,Y7,Y8,sp,nd,k,rfl,hK,nsl,hs,hsp,hn,hnd,hl1,hl2,hk,hall,hF,rfl⟩
 have ls:=zV hsp
 have ln:=zV hnd
 rw [List.length_map] at ln
 refine⟨_,rfl,nl,_,rfl,.inl (bR.of hn),_,rfl,sl,_,rfl,.inl (bR.of hs),_,_,rfl,rfl,_,rfl,lC (fun d=>?_) (fun d=>?_)⟩
 · have d:((nx.length:Nat):Int)<(sx.length:Nat):=of_decide_eq_true d
   have hN1:=hK.fr _ _ (s12 _ _ hN) (rB auz)
   have aaJ:=hK.fr _ _ (s12 _ _ Vn) (rB nta)
   obtain⟨x,hx⟩:∃ x,sx[nd.length]? = some x:=⟨_,List.getElem?_eq_getElem (by omega)⟩
   obtain⟨s,hss,xa,rfl,hxa⟩:=yF hsp hx
   have aaK:=hall s (List.mem_of_getElem? hss)
   refine⟨fun σ' H'=>∃ sl sx nx u8 u9 Y7 Y8 Fb rO,∃ k':Nat,σ'=[some (.ref nml),some (.ref ta),some (.bl dn),some (.ref st),some (.int (mo:Nat)),some (.ref sl),some (.ref nl),some (.int (k':Nat)),u8,u9,Y7,Y8]∧Ky [nl] Hc H'∧sl≠nl∧H' sl=some (.lst sx)∧Paired (SpR H') sx Fb∧H' nl=some (.lst nx)∧Paired (fG (fun a=>Hc a=none) H' 3) nx (rO.map (PX N t dn))∧rO.length≤Fb.length∧Fb.length≤1+2*k'∧k'≤mo∧(∀ s∈Fb,s.1≤s.2)∧NF t mo Fb rO k' out∧2*(mo - k')+(Fb.length - rO.length)<2*(mo - k)+(sp.length - nd.length),fun σ' H' z=>?_,?_⟩
   · obtain⟨sl,sx,nx,u8,u9,Y7,Y8,Fb,rO,k',h1,h2,h3,h4,h5,h6,h7,h8,h9,h10,h11,h12,h13⟩:=z
     exact⟨_,h13,sl,sx,nx,u8,u9,Y7,Y8,Fb,rO,k',h1,h2,h3,h4,h5,h6,h7,h8,h9,h10,h11,h12,rfl⟩
   refine⟨_,rfl,_,rfl,nl,_,rfl,.inl (bR.of hn),sl,_,_,_,rfl,rfl,bR.of hs,(by rw [ln];exact zR hx),xa,_,rfl,dH.of hxa,rfl,_,_,rfl,_,_,rfl,rfl,?_⟩
   dsimp only [bU,List.set_cons_succ,List.set_cons_zero]
   refine⟨_,rfl,ta,_,_,_,rfl,rfl,dH.of aaJ,j0,_,rfl,_,rfl,_,rfl,ta,_,_,_,rfl,rfl,dH.of aaJ,j1,t.h,s.1,s.2,t.m,rfl,hw,aaK,?_⟩
   dsimp only [bU,List.set_cons_succ,List.set_cons_zero]
   have lf:¬ (kh s t.h t.m=none∧k<mo)→NF t mo sp (nd++[.lf s]) k out:=fun c=>by
     cases hF with
     | done z=>omega
     | split z1 z2 z3 _=>rw [hss] at z1;cases z1;exact absurd ⟨z2,z3⟩ c
     | leaf z1 _ z3=>rw [hss] at z1;cases z1;exact z3
   have sf:kh s t.h t.m=none→k<mo→NF t mo (sp++[(s.1,kj t s.1),(kj t s.1+1,s.2)]) (nd++[.sp (kj t s.1) sp.length]) (k+1) out:=fun c1 c2=>by
     cases hF with
     | done z=>omega
     | split z1 z2 z3 z4=>rw [hss] at z1;cases z1;exact z4
     | leaf z1 z2 _=>rw [hss] at z1;cases z1;exact absurd ⟨c1,c2⟩ z2
   have aaL:=fun z=>RT (s:=s) hw aaK z
   have ee:kh (s.1,s.2) t.h t.m=kh s t.h t.m:=rfl
   rw [ee]
   have hnT:PX N t dn (.lf s)=HF N (kh s t.h t.m) dn s:=rfl
   generalize kh s t.h t.m=kn at lf sf aaL hnT ⊢
   refine adk rfl rfl rfl ?_
   refine lC (fun c=>?_) (fun c=>?_)
   · have c:kn=none∧(k:Int)<mo:=by
       rw [Bool.and_eq_true] at c
       exact⟨of_decide_eq_true c.1,of_decide_eq_true c.2⟩
     have hF2:=sf c.1 (by omega)
     have hc2:=aaL c.1
     refine⟨_,rfl,ta,_,_,_,rfl,rfl,dH.of aaJ,j0,_,rfl,_,rfl,ta,_,_,_,rfl,rfl,dH.of aaJ,j1,t,s.1,rfl,hw,?_⟩
     generalize kj t s.1=cut at hF2 hc2 ⊢
     dsimp only [bU,List.set_cons_succ,List.set_cons_zero]
     refine⟨_,rfl,.inl ⟨rfl,_,bR.of hn⟩,_,rfl,nml,_,_,_,rfl,rfl,bR.of hN1,n0,_,rfl,_,rfl,sl,_,rfl,.inl (bR.of hs),_,rfl,sl,_,rfl,.inl (bR.of hs),_,_,rfl,rfl,(by show 6≤sizeLine;decide),fun t3 ht3=>?_⟩
     have a1:=zG ht3 (.tup [.str ‹"split"›,.str (N 0),.int 0,.int cut,.int (sx.length:Nat),.int ((sx.length:Nat)+1:Int)])
     refine⟨nl,_,_,rfl,rfl,a1 _ _ hn,yK (m:=1000) (by omega),?_⟩
     have hT3:(upd H1 t3 (.tup [.str ‹"split"›,.str (N 0),.int 0,.int cut,.int (sx.length:Nat),.int ((sx.length:Nat)+1:Int)])) t3=some (.tup [.str ‹"split"›,.str (N 0),.int 0,.int cut,.int (sx.length:Nat),.int ((sx.length:Nat)+1:Int)]):=zB
     have tr:fG (fun a=>Hc a=none) (upd H1 t3 (.tup [.str ‹"split"›,.str (N 0),.int 0,.int cut,.int (sx.length:Nat),.int ((sx.length:Nat)+1:Int)])) 3 (.ref t3) (HH N cut sx.length):=⟨t3,_,rfl,hT3,(by show 6≤1000;decide),pC abz⟩
     have nd2:=Ml (a1 _ _ hn) nF (zH hnd fun _ _ z=>fG.same a1 z) tr
     have K2:=(hK.same a1).upd (List.mem_singleton.mpr rfl) (.lst (nx++[.ref t3]))
     have hs2:(upd (upd H1 t3 (.tup [.str ‹"split"›,.str (N 0),.int 0,.int cut,.int (sx.length:Nat),.int ((sx.length:Nat)+1:Int)])) nl (.lst (nx++[.ref t3]))) sl=some (.lst sx):=by rw [zI nsl];exact a1 _ _ hs
     have sp2:=Yp (o:=.lst (nx++[.ref t3])) (a1 _ _ hn) (Mm a1 hsp)
     have hn2:(upd (upd H1 t3 (.tup [.str ‹"split"›,.str (N 0),.int 0,.int cut,.int (sx.length:Nat),.int ((sx.length:Nat)+1:Int)])) nl (.lst (nx++[.ref t3]))) nl=some (.lst (nx++[.ref t3])):=zB
     generalize upd (upd H1 t3 (HO.tup [.str ‹"split"›,.str (N 0),.int 0,.int cut,.int (sx.length:Nat),.int ((sx.length:Nat)+1:Int)])) nl (HO.lst (nx++[.ref t3]))=H2 at nd2 K2 hs2 sp2 hn2 ⊢
     refine⟨_,rfl,_,rfl,_,rfl,(by show 2≤sizeLine;decide),fun b1 hb1=>?_⟩
     have c1:=zG hb1 (.tup [.int s.1,.int cut])
     refine⟨_,rfl,_,_,rfl,rfl,_,rfl,(by show 2≤sizeLine;decide),fun b2 hb2=>?_⟩
     have c2:=zG hb2 (.tup [.int (cut+1),.int s.2])
     refine⟨(by show 2≤sizeLine;decide),fun b3 hb3=>?_⟩
     have c3:=zG hb3 (.lst [.ref b1,.ref b2])
     refine⟨sl,b3,_,_,rfl,rfl,(c1.trans c2).trans c3 |>.trans (aA.refl _) |> (fun z=>z _ _ hs2),zB,yK (m:=1000) (by show sx.length+2≤1000;omega),fun sn hsn=>?_⟩
     have c4:=zG hsn (.lst (sx++[.ref b1,.ref b2]))
     have c14:=((c1.trans c2).trans c3).trans c4
     dsimp only [bU,List.set_cons_succ,List.set_cons_zero]
     refine⟨_,rfl,_,_,rfl,rfl,?_⟩
     refine⟨sn,_,nx++[.ref t3],_,_,_,_,sp++[(s.1,cut),(cut+1,s.2)],nd++[.sp cut sp.length],k+1,rfl,K2.same c14,Ne.symm (zJ (((c1.trans c2).trans c3) _ _ hn2) hsn),zB,xH (Mm c14 sp2) (.cons ⟨b1,rfl,c4 _ _ (c3 _ _ (c2 _ _ zB))⟩ (.cons ⟨b2,rfl,c4 _ _ (c3 _ _ zB)⟩ .nil)),c14 _ _ hn2,?_,?_,?_,by omega,?_,hF2,?_⟩
     · rw [List.map_append]
       show Paired _ _ (nd.map (PX N t dn)++[HH N cut sp.length])
       rw [← ls];exact zH nd2 fun _ _ z=>fG.same c14 z
     · simp only [List.length_append,List.length_cons,List.length_nil];omega
     · simp only [List.length_append,List.length_cons,List.length_nil];omega
     · intro s' h'
       rcases List.mem_append.mp h' with h' | h'
       · exact hall s' h'
       · simp only [List.mem_cons,List.not_mem_nil,or_false] at h'
         rcases h' with rfl | rfl
         · exact hc2.1
         · exact hc2.2
     · simp only [List.length_append,List.length_cons,List.length_nil];omega
   · have c:¬ (kn=none∧k<mo):=fun z=>c (by rw [decide_eq_true z.1,decide_eq_true (show (k:Int)<mo by omega)];rfl)
     refine⟨_,rfl,.inl ⟨rfl,_,bR.of hn⟩,_,rfl,_,rfl,_,rfl,_,rfl,_,rfl,nml,N,kn,dn,s,rfl,hN1,fun x H3 s3 hx3=>?_⟩
     have nd2:=Ml (s3 _ _ hn) nF (zH hnd fun _ _ z=>fG.same s3 z) (fG.weak (fun a za=>hK.dm a za) hx3)
     refine⟨nl,_,_,rfl,rfl,s3 _ _ hn,yK (m:=1000) (by omega),?_⟩
     refine⟨sl,sx,_,_,_,_,_,sp,nd++[.lf s],k,rfl,(hK.same s3).upd (List.mem_singleton.mpr rfl) _,nsl,by rw [zI nsl];exact s3 _ _ hs,Yp (s3 _ _ hn) (Mm s3 hsp),zB,?_,?_,hl2,hk,hall,lf c,?_⟩
     · rw [List.map_append]
       show Paired _ _ (nd.map (PX N t dn)++[PX N t dn (.lf s)])
       rw [hnT];exact nd2
     · simp only [List.length_append,List.length_cons,List.length_nil];omega
     · simp only [List.length_append,List.length_cons,List.length_nil];omega
 · have d:¬ (((nx.length:Nat):Int)<(sx.length:Nat)):=fun z=>d (decide_eq_true z)
   cases hF with
   | done _ =>
     refine⟨_,rfl,q nl H1 (fun b o e=>hK.fr _ _ (s12 _ _ e) (rB (zJ e nn1))) ⟨nl,nx,rfl,hn,by omega,zH hnd fun _ _ z=>fG.weak (fun a za=>yE s12 za) z,nn1⟩⟩
   | split z1 _ _ _=>have:=(List.getElem?_eq_some_iff.mp z1).1;omega
   | leaf z1 _ _=>have:=(List.getElem?_eq_some_iff.mp z1).1;omega
end
def Y9 (H:Hp) (bx:Addr) (z:Str) (x:Kn) (s:jf):Prop:=∃ b,H bx=some (.dT b)∧((∃ t,b=[(keyOf z,.ref t)]∧H t=some (.tup [.int s.1,.int s.2]))∨(b=[]∧s=(x.lo,x.hi)))
theorem Y9.kq {H H':Hp} (f:Kq H H') {bx:Addr}{z:Str}{x:Kn}{s:jf} (h:Y9 H bx z x s):Y9 H' bx z x s:=by
 obtain⟨b,h1,h2⟩:=h
 refine⟨b,f _ _ h1 trivial,?_⟩
 rcases h2 with ⟨t,e,h2⟩ | h2
 · exact .inl ⟨t,e,f _ _ h2 trivial⟩
 · exact .inr h2
theorem Yq {k k':List Key}{v:V}:eF [(k,v)] k'=if k=k' then some v else none:=by
 by_cases e:k=k'
 · rw [if_pos e,xD e]
 · rw [if_neg e,xB e];rfl
def adm:Option Str→List V
 | some n=>gn n
 | none=>Hz
def Pn (rg:Rg) (n:Str):List V:=[.str n,.int 0,.int (rg n).1,.int (rg n).2]
def ahj:Sp:=fun vs H Q _=>∃ (bx:Addr) (b:List (List Key × V)) (z:Str) (st:Addr),vs=[.ref bx,.str z,.int 0,.ref st]∧H bx=some (.dT b)∧(b=[]∨∃ v,b=[(keyOf z,v)])∧∀ d H',H d=none→aA H H'→H' d=some (.dT [(keyOf z,.ref st)])→Q (.ref d) H'
def aaM (A:cM):Sp:=fun vs H Q _=>∃ bx kd kvs S rg r s cut,vs=[.ref bx,.ref kd,.str r.nm,.int 0,.int cut]∧H kd=some (.dK kvs)∧Vk A H kvs S∧BxR H bx S rg∧iH S r∧rg r.nm=s∧Y9 H bx r.nm r.kd s ∧
 ∀ p b1 b2 H',aA H H'→H' p=some (.lst [.ref b1,.ref b2])→Y9 H' b1 r.nm r.kd (s.1,cut)→Y9 H' b2 r.nm r.kd (cut+1,s.2)→Q (.ref p) H'
def ahk (A:cM):Sp:=fun vs H Q _=>∃ (lg:Addr) (ts:List V) (ls:List (Option Str)) (bx kd:Addr) (kvs:List (Key × V)) (S:List qm) (rg:Rg),vs=[.ref lg,.ref bx,.ref kd]∧H lg=some (.lst ts)∧Paired (jB H) ts (ls.map adm)∧(∀ n,some n∈ls→Hy S n)∧ls.length≤100∧H kd=some (.dK kvs)∧Vk A H kvs S∧BxR H bx S rg ∧
 ∀ p us H',aA H H'→H p=none→H' p=some (.lst us)→Paired (jB H') us ((ls.filterMap id).map (Pn rg))→Q (.ref p) H'
section
variable {P:Program}{w:World}{K:W.Frag}{mg:Str→Option Value}{base:Heap}{A:cM}
theorem Pq (T:Txt K mg A):aG P w K mg base bQ 1 A.qN A.vJ ["box","question","k","span"] ahj:=by
 refine T.QM.ok CP (fun vs H Q E h=>?_) (fun cdv A0 outer s H vs Q E hr h=>?_)
 · obtain⟨bx,b,z,st,rfl,_⟩:=h
   rfl
 obtain⟨bx,b,z,st,rfl,hb,hbb,q⟩:=h
 refine⟨_,(zC (zT (i:=4) CP.nd rfl ‹0› (xQ Cp (by rfl) T.Rh Bt.dict (zA (pv 0) zD)))
     (zC (ug (xG hr) (pv 4) (yA (zA (pv 1) (zA (pv 2) zD))) (pv 3) rfl)
     (zE (zK (pv 4))))),?_⟩
 have hl:b.length≤1:=by rcases hbb with rfl | ⟨v,rfl⟩ <;> simp
 refine⟨_,rfl,bx,b,rfl,hb,hl,fun d hd=>?_⟩
 have s1:=zG hd (.dT b)
 dsimp only [bU,List.set_cons_succ,List.set_cons_zero]
 refine⟨_,rfl,_,rfl,_,rfl,_,rfl,(by show 2≤sizeLine;decide),fun kt hkt=>?_⟩
 have s2:=zG hkt (.tup [.str z,.int 0])
 refine⟨d,_,rfl,Dh.t (k:=keyOf z) (s2 _ _ zB) zB (yK (m:=10) (by omega)),?_⟩
 have e:putK b (keyOf z) (.ref st)=[(keyOf z,.ref st)]:=by rcases hbb with rfl | ⟨v,rfl⟩ <;> simp [putK]
 rw [e]
 refine⟨_,rfl,q d _ hd (fun b o hb=>?_) zB⟩
 rw [zI (zJ hb hd)];exact (s1.trans s2) _ _ hb
theorem Pr (T:Txt K mg A):aG P w K mg base bQ 2 A.qO A.vK ["box","kinds","question","k","cut"] (aaM A):=by
 have oG:=tY (P:=P) (w:=w) (base:=base) T
 have HJ:=Pq (P:=P) (w:=w) (base:=base) T
 refine T.QQ.ok CQ (fun vs H Q E h=>?_) (fun cdv A0 outer s H vs Q E hr h=>?_)
 · obtain⟨bx,kd,kvs,S,rg,r,s,cut,rfl,_⟩:=h
   rfl
 obtain⟨bx,kd,kvs,S,rg,r,s,cut,rfl,hk,hK,hB,hr',hs,⟨b,hb,hbs⟩,q⟩:=h
 refine⟨_,(zC (zT (i:=5) CQ.nd rfl ‹0› (zU oG ‹hr› rfl T.wj T.wg T.v9 .nil zQ (zA (pv 0) (zA (pv 1) (zA (pv 2) (zA (pv 3) zD))))))
     (zE (zK (yJ (zA (zU HJ ‹hr› rfl T.Gz T.Gy T.Gx .nil zQ (zA (pv 0) (zA (pv 2) (zA (pv 3) (zA (yA (zA (zS zX (pv 5) zF (fun _ _=>rfl)) (zA (pv 4) zD))) zD))))) (zA (zU HJ ‹hr› rfl T.Gz T.Gy T.Gx .nil zQ (zA (pv 0) (zA (pv 2) (zA (pv 3) (zA (yA (zA (zY xE (pv 4) zF) (zA (zS zX (pv 5) zF (fun _ _=>rfl)) zD))) zD))))) zD)))))),?_⟩
 refine⟨_,rfl,_,rfl,_,rfl,_,rfl,bx,kd,kvs,S,rg,r,rfl,hk,hK,hB,hr',fun t H1 s1 ht=>?_⟩
 rw [hs] at ht
 have hbb:b=[]∨∃ v,b=[(keyOf r.nm,v)]:=by
   rcases hbs with ⟨t,e,_⟩ | ⟨e,_⟩
   · exact .inr ⟨_,e⟩
   · exact .inl e
 have ht':dH K H1 t _:=dH.of ht
 have j0:iM [V.int s.1,.int s.2] ((0:Nat):Int)=some (.int s.1):=zR rfl
 have j1:iM [V.int s.1,.int s.2] ((1:Nat):Int)=some (.int s.2):=zR rfl
 dsimp only [bU,List.set_cons_succ,List.set_cons_zero]
 refine⟨_,rfl,_,rfl,_,rfl,_,rfl,t,_,_,_,rfl,rfl,ht',j0,_,rfl,(by show 2≤sizeLine;decide),fun u1 hu1=>?_⟩
 have s2:=zG hu1 (.tup [.int s.1,.int cut])
 refine⟨bx,b,r.nm,u1,rfl,(s1.trans s2) _ _ hb,hbb,fun d1 H2 n1 s3 hd1=>?_⟩
 refine⟨_,rfl,_,rfl,_,rfl,_,rfl,_,_,rfl,rfl,_,rfl,t,_,_,_,rfl,rfl,(s2.trans s3).pH ht',j1,(by show 2≤sizeLine;decide),fun u2 hu2=>?_⟩
 have s4:=zG hu2 (.tup [.int (cut+1),.int s.2])
 refine⟨bx,b,r.nm,u2,rfl,(((s1.trans s2).trans s3).trans s4) _ _ hb,hbb,fun d2 H3 n2 s5 hd2=>?_⟩
 refine⟨(by show 2≤sizeLine;decide),fun p hp=>?_⟩
 have s6:=zG hp (.lst [.ref d1,.ref d2])
 exact q p d1 d2 _ (((((s1.trans s2).trans s3).trans s4).trans s5).trans s6) zB ⟨_,((s4.trans s5).trans s6) _ _ hd1,.inl ⟨u1,rfl,(((s3.trans s4).trans s5).trans s6) _ _ zB⟩⟩ ⟨_,s6 _ _ hd2,.inl ⟨u2,rfl,(s5.trans s6) _ _ zB⟩⟩
theorem Mr (T:Txt K mg A):aG P w K mg base bQ 2 A.oV A.sJ ["log","box","kinds"] (ahk A):=by
 have oG:=tY (P:=P) (w:=w) (base:=base) T
 refine T.N6.ok zf (fun vs H Q E h=>?_) (fun cdv A0 outer s H vs Q E hr h=>?_)
 · obtain⟨lg,ts,ls,bx,kd,kvs,S,rg,rfl,_⟩:=h
   rfl
 obtain⟨lg,ts,ls,bx,kd,kvs,S,rg,rfl,RQ,hts,adn,hl,hk,hK,hB,q⟩:=h
 refine⟨_,(zC (NQ (i:=3) zf.nd rfl ‹0› (xR (x:="row") (M:=["log","box","kinds","asked"]) rfl (by rfl)) rfl (yT (pv 0)) (fun _ _ _ _=>NP (by exact (Nu (zL yM (zS zX (pv 0) zF (fun _ _=>rfl)) zM (zN _)))) (by dsimp only [dM] <;> rfl)) (fun _ _ _ _=>Af (by exact (pY Ep (pv 0) (uf zF) ue)) (by dsimp only [dM] <;> rfl)))
     (zE (zK (Fy (vB (xR (x:="question") (M:=["log","box","kinds","asked"]) rfl (by rfl)) (by rfl) (by symm)) rfl (yT (pv 3)) (fun _ _ _ _=>Fx) (fun _ _ _ _=>Af (by exact (zY Km (yA (zA (pv 0) (zA (pv 1) zD))) (zU oG ‹hr› rfl T.wj T.wg T.v9 .nil zQ (zA (pv 3) (zA (pv 4) (zA (pv 0) (zA (pv 1) zD))))))) (by dsimp only [fL] <;> rfl)))))),?_⟩
 have lt:=zV hts
 rw [List.length_map] at lt
 refine⟨_,rfl,lg,rfl,⟨ts,bR.of RQ⟩,?_⟩
 refine FQ (xs:=ts) (yK (m:=1000) (by omega)) (fun i zs G=>aA H G∧Paired (jB G) zs (((ls.take i).filterMap id).map fun n=>[V.str n,.int 0])) ⟨aA.refl _,.nil⟩ (fun i zs G hw=>bR.of (hw.1 _ _ RQ)) (fun i x zs G hx hzl hw=>?_) (fun zs G hw p hp=>?_)
 · obtain⟨sG,hp⟩:=hw
   obtain⟨e,he,a,rfl,ha⟩:=yF hts hx
   rw [List.getElem?_map] at he
   obtain⟨o,ho,rfl⟩:=Option.map_eq_some_iff.mp he
   have hst:=take_snoc ho
   cases o with
   | none =>
     have i0:iM [V.str ‹"end"›] ((0:Nat):Int)=some (.str ‹"end"›):=zR rfl
     refine⟨_,rfl,a,_,_,_,rfl,rfl,dH.of (sG _ _ ha),i0,rfl,_,rfl,mz (show ‹"end"› ≠ ‹"ask"› by symm) ⟨sG,?_⟩⟩
     rw [hst,List.filterMap_append]
     simpa using hp
   | some n =>
     have i0:iM [V.str ‹"ask"›,.str n,.int 0] ((0:Nat):Int)=some (.str ‹"ask"›):=zR rfl
     refine⟨_,rfl,a,_,_,_,rfl,rfl,dH.of (sG _ _ ha),i0,rfl,_,rfl,CW rfl ⟨_,rfl,_,rfl,a,_,rfl,dH.of (sG _ _ ha),.inr ⟨(by intro z;exact absurd z.1 (by show ¬ (1=0);decide)),fun p hp'=>?_⟩⟩⟩
     have s1:=zG hp' (.tup (pG [V.str ‹"ask"›,.str n,.int 0] (some 1) none))
     refine⟨sG.trans s1,?_⟩
     rw [hst,List.filterMap_append,List.map_append]
     exact xH (zH hp fun _ _=>jB.kq (.of s1)) (.cons ⟨p,rfl,zB⟩ .nil)
 · obtain⟨sG,hp1⟩:=hw
   rw [lt,List.take_length] at hp1
   have s1:=zG hp (.lst zs)
   have sH:=sG.trans s1
   have hp2:Paired (jB (upd G p (.lst zs))) zs ((ls.filterMap id).map fun n=>[V.str n,.int 0]):=zH hp1 fun _ _=>jB.kq (.of s1)
   have hz:(upd G p (.lst zs)) p=some (.lst zs):=zB
   dsimp only [bU,List.set_cons_succ,List.set_cons_zero]
   generalize upd G p (HO.lst zs)=G1 at sH hp2 hz ⊢
   have lz:=zV hp2
   rw [List.length_map] at lz
   have lf:(ls.filterMap id).length≤100:=Nat.le_trans (List.length_filterMap_le _ _) hl
   have hmem:∀ n∈ls.filterMap id,Hy S n:=fun n hn=>by
     obtain⟨o,ho,e⟩:=List.mem_filterMap.mp hn
     have e:o=some n:=e
     subst e
     exact adn n ho
   generalize ls.filterMap id=nn at hp2 lz lf hmem q
   refine⟨_,rfl,p,rfl,⟨zs,bR.of hz⟩,?_⟩
   refine vC (xs:=zs) (yK (m:=1000) (by omega)) (fun i us G2=>aA G1 G2∧Paired (jB G2) us ((nn.take i).map (Pn rg))) ⟨aA.refl _,.nil⟩ (fun i us G2 hw=>bR.of (hw.1 _ _ hz)) (fun i x us G2 hx hul hw=>?_) (fun us G2 hw p2 hp2'=>?_)
   · obtain⟨s2,hu⟩:=hw
     obtain⟨e,he,a,rfl,ha⟩:=yF hp2 hx
     rw [List.getElem?_map] at he
     obtain⟨n,hn,rfl⟩:=Option.map_eq_some_iff.mp he
     have hst:=take_snoc hn
     obtain⟨r,hr',rfl⟩:=hmem n (List.mem_of_getElem? hn)
     have sA:=sH.trans s2
     refine⟨a,_,_,rfl,dH.of (s2 _ _ ha),aaj ?_⟩
     refine⟨_,rfl,_,rfl,(by show 2≤sizeLine;decide),fun t1 ht1=>?_⟩
     have s3:=zG ht1 (.tup [.str r.nm,.int 0])
     have sB:=sA.trans s3
     refine⟨_,rfl,_,rfl,_,rfl,_,rfl,bx,kd,kvs,S,rg,r,rfl,sB _ _ hk,hK.kq (.of sB),hB.kq (.of sB),hr',fun t G4 s4 ht=>?_⟩
     refine⟨t1,t,_,_,rfl,rfl,dH.of (s4 _ _ zB),dH.of ht,by simp,(by show 4≤sizeLine;decide),(fun z=>by cases z),fun _ p3 hp3=>?_⟩
     have s5:=zG hp3 (.tup (Pn rg r.nm))
     refine⟨((s2.trans s3).trans s4).trans s5,?_⟩
     rw [hst,List.map_append]
     exact xH (zH hu fun _ _=>jB.kq (.of ((s3.trans s4).trans s5))) (.cons ⟨p3,rfl,zB⟩ .nil)
   · obtain⟨s2,hu⟩:=hw
     rw [lz,List.take_length] at hu
     have s3:=zG hp2' (.lst us)
     exact q p2 us _ ((sH.trans s2).trans s3) (yE (sH.trans s2) hp2') zB (zH hu fun _ _=>jB.kq (.of s3))
end
def abA:Str:=‹"only"›
def SS (N:Nm) (x:Kn) (y:Sy):List qm:=[(abA,[⟨N 0,x,none⟩,⟨N 1,.yn,some y⟩])]
def pW (N:Nm) (s:jf):Rg:=fun z=>if z=N 0 then s else (0,1)
theorem CZ {N:Nm}{s:jf}:pW N s (N 0)=s:=if_pos rfl
theorem Yr {N:Nm}{s:jf} (h:N 0≠N 1):pW N s (N 1)=(0,1):=if_neg (Ne.symm h)
theorem HN {N:Nm}{x:Kn}{y:Sy}{r:Rw} (h:iH (SS N x y) r):r=⟨N 0,x,none⟩∨r=⟨N 1,.yn,some y⟩:=by
 obtain⟨sh,hs,hr⟩:=h
 rw [List.mem_singleton.mp hs] at hr
 simpa using hr
theorem Ys {N:Nm}{x:Kn}{y:Sy}:iH (SS N x y) ⟨N 0,x,none⟩:=⟨_,List.mem_cons_self,List.mem_cons_self⟩
theorem auA {N:Nm}{x:Kn}{y:Sy}:iH (SS N x y) ⟨N 1,.yn,some y⟩:=⟨_,List.mem_cons_self,List.mem_cons_of_mem _ List.mem_cons_self⟩
theorem abB {N:Nm}{x:Kn}{y:Sy} (h:N 0≠N 1) (k:Ly x y.1):GS N (SS N x y):=by
 refine⟨by show 1≤5;decide,fun s hs=>?_,fun r r' h1 h2 e=>?_,⟨_,Ys,rfl,fun r' y' h1 e=>?_⟩⟩
 · rw [List.mem_singleton.mp hs];show 2≤4;decide
 · rcases HN h1 with rfl | rfl <;> rcases HN h2 with rfl | rfl
   · rfl
   · exact absurd e h
   · exact absurd e (Ne.symm h)
   · rfl
 · rcases HN h1 with rfl | rfl
   · cases e
   · cases e;exact k
theorem Yt {N:Nm}{x:Kn}{y:Sy} (h:N 0≠N 1) {H:Hp}{bx:Addr}{s:jf} (hb:Y9 H bx (N 0) x s):BxR H bx (SS N x y) (pW N s):=by
 obtain⟨b,h1,h2⟩:=hb
 refine⟨_,h1,fun r hr=>?_⟩
 rcases h2 with ⟨t,rfl,h2⟩ | ⟨rfl,h2⟩
 · rw [Yq]
   rcases HN hr with rfl | rfl
   · refine .inl ⟨t,if_pos rfl,?_⟩
     show H t=some (.tup [.int (pW N s (N 0)).1,.int (pW N s (N 0)).2])
     rw [CZ];exact h2
   · exact .inr ⟨if_neg (fun z=>h (Sum.inr.inj (List.cons.inj z).1)),Yr h⟩
 · rcases HN hr with rfl | rfl
   · exact .inr ⟨rfl,by show pW N s (N 0)=_;rw [CZ];exact h2⟩
   · exact .inr ⟨rfl,Yr h⟩
theorem ahl {N:Nm}{x:Kn}{y:Sy}{s:jf}:ac6 (pW N s) N (SS N x y):=by
 intro g hg sh hs j r y' hj e
 rw [List.mem_singleton.mp hs] at hj ⊢
 match j,hj with
 | 0,hj=>cases hj;cases e
 | 1,hj =>
   have:fQ (pW N s) N g [⟨N 0,x,none⟩]=X4 g ⟨N 0,x,none⟩:=by
     show mF (pW N s) N g ⟨N 0,x,none⟩=_
     unfold mF
     rw [if_neg (by rw [hg];decide)]
     rfl
   show N y'.1.i∈(fQ (pW N s) N g [⟨N 0,x,none⟩]).l
   rw [this]
   have e:N y'.1.i=N 0:=by cases y'.1 <;> rfl
   rw [e]
   exact List.mem_append_right _ List.mem_cons_self
 | j+2,hj=>simp at hj
abbrev oK (y:Sy) (s:jf):Option Bool:=kh s y.1.h y.1.m
def Px (N:Nm) (y:Sy) (s:jf):Ct:=if oK y s=none then some (N 0,kj y.1 s.1) else none
theorem ahm {N:Nm}{y:Sy}{s:jf}:tri (pW N s) N y=if y.2=true then (oK y s).map (!·) else oK y s:=by
 have e:Jm (pW N s) N y.1=oK y s:=by
   unfold Jm
   rw [show N y.1.i=N 0 by cases y.1 <;> rfl,CZ]
 unfold tri
 rw [e]
theorem ado {N:Nm}{x:Kn}{y:Sy}{s:jf}:∃ l,Fin (pW N s) N (SS N x y) 0 Y6 ⟨l,rR N (oK y s) y.2,[],true,Px N y s⟩:=by
 have e1:mF (pW N s) N Y6 ⟨N 0,x,none⟩=⟨[N 0],[gn (N 0)],[],false,none⟩:=rfl
 have e2:fQ (pW N s) N Y6 [⟨N 0,x,none⟩,⟨N 1,.yn,some y⟩]=mF (pW N s) N ⟨[N 0],[gn (N 0)],[],false,none⟩ ⟨N 1,.yn,some y⟩:=rfl
 have hst:∀ g:Gs,g.ov=false→mF (pW N s) N g ⟨N 1,.yn,some y⟩=if decide (tri (pW N s) N y=some true)=true then X4 (RM (pW N s) N g (some y)) ⟨N 1,.yn,some y⟩ else RM (pW N s) N g (some y):=fun g hg=>by
   unfold mF
   rw [if_neg (by rw [hg];decide)]
   rfl
 have hso:∀ g:Gs,RM (pW N s) N g (some y)=if tri (pW N s) N y=none then ⟨g.l,g.L,g.D,true,some (N y.1.i,kj y.1 (pW N s (N y.1.i)).1)⟩ else g:=fun g=>rfl
 have hN:N y.1.i=N 0:=by cases y.1 <;> rfl
 have mk:∀ {l sf},Fin (pW N s) N (SS N x y) 1 (fQ (pW N s) N Y6 [⟨N 0,x,none⟩,⟨N 1,.yn,some y⟩]) sf→sf=⟨l,rR N (oK y s) y.2,[],true,Px N y s⟩→∃ l,Fin (pW N s) N (SS N x y) 0 Y6 ⟨l,rR N (oK y s) y.2,[],true,Px N y s⟩:=fun {l sf} h e=>⟨l,e ▸ .step rfl rfl h⟩
 have ht:=ahm (N:=N) (y:=y) (s:=s)
 unfold rR Px at *
 cases hk:oK y s with
 | none =>
   have ht:tri (pW N s) N y=none:=by rw [ht,hk];cases y.2 <;> rfl
   rw [hk] at mk
   refine mk (l:=[N 0]) (.over ?_) ?_
   · rw [e2,hst _ rfl,hso,ht,if_neg (by decide),if_pos rfl]
   · rw [e2,hst _ rfl,hso,ht,if_neg (by decide),if_pos rfl,hN,CZ]
     rw [if_neg (show ¬ (none=some (!y.2)) from nofun),if_pos rfl,if_pos rfl];rfl
 | some b =>
   rw [hk] at mk
   have nn:tri (pW N s) N y≠none:=by rw [ht,hk];cases y.2 <;> exact nofun
   by_cases hb:b=!y.2
   · have ht:tri (pW N s) N y=some true:=by rw [ht,hk,hb];cases y.2 <;> rfl
     refine mk (l:=[N 0,N 1]) (.done ?_ (by show 1≤1;decide)) ?_
     · rw [e2,hst _ rfl,hso,if_neg nn,ht,if_pos (by decide)];rfl
     · rw [e2,hst _ rfl,hso,if_neg nn,ht,if_pos (by decide)]
       rw [if_pos (show some b=some (!y.2) by rw [hb]),if_neg (show ¬ (some b=none) from nofun),if_neg (show ¬ (some b=none) from nofun)];rfl
   · have ht:tri (pW N s) N y=some false:=by rw [ht,hk];revert hb;cases y.2 <;> cases b <;> simp
     refine mk (l:=[N 0]) (.done ?_ (by show 1≤1;decide)) ?_
     · rw [e2,hst _ rfl,hso,if_neg nn,ht,if_neg (by decide)]
     · rw [e2,hst _ rfl,hso,if_neg nn,ht,if_neg (by decide)]
       rw [if_neg (show ¬ (some b=some (!y.2)) from fun z=>hb (Option.some.inj z)),if_neg (show ¬ (some b=none) from nofun),if_neg (show ¬ (some b=none) from nofun)];rfl
def TQ (N:Nm) (kn:Option Bool) (dn:Bool):List (Option Str):=[some (N 0)]++(if kn=some (!dn) then [some (N 1)] else [])++(if kn=none then [] else [none])
theorem Ms (N:Nm) (kn:Option Bool) (dn:Bool):rR N kn dn=(TQ N kn dn).map adm:=by
 unfold rR TQ
 rw [List.map_append,List.map_append]
 congr 1
 · congr 1
   split <;> rfl
 · split <;> rfl
theorem adp {N:Nm}{kn:Option Bool}{dn:Bool}{s:jf} (h:N 0≠N 1):wL N kn dn s=((TQ N kn dn).filterMap id).map (Pn (pW N s)):=by
 have e0:Pn (pW N s) (N 0)=[.str (N 0),.int 0,.int s.1,.int s.2]:=by unfold Pn;rw [CZ]
 have e1:Pn (pW N s) (N 1)=[.str (N 1),.int 0,.int 0,.int 1]:=by unfold Pn;rw [Yr h]
 unfold wL TQ
 rw [List.filterMap_append,List.filterMap_append,List.map_append,List.map_append]
 by_cases c:kn=some (!dn)
 · rw [if_pos c,if_pos c,if_neg (by rw [c];exact nofun)]
   show _=[Pn (pW N s) (N 0)]++[Pn (pW N s) (N 1)]++[]
   rw [e0,e1];rfl
 · rw [if_neg c,if_neg c]
   by_cases c2:kn=none
   · rw [if_pos c2];show _=[Pn (pW N s) (N 0)]++[]++[];rw [e0];rfl
   · rw [if_neg c2];show _=[Pn (pW N s) (N 0)]++[]++[];rw [e0];rfl
def BxL (H:Hp) (z:Str) (k:Kn) (x:V) (s:jf):Prop:=∃ b,x=.ref b∧Y9 H b z k s
theorem zp {H H':Hp} (f:aA H H') {z:Str}{k:Kn}{bs:List V}{sp:List jf} (h:Paired (BxL H z k) bs sp):Paired (BxL H' z k) bs sp:=zH h fun _ _ ⟨b,e,k⟩=>⟨b,e,k.kq (.of f)⟩
theorem Mt {H:Hp}{m:Addr}{o:HO}{l:List V} (hm:H m=some (.lst l)) {b:Addr}{z:Str}{k:Kn}{s:jf} (h:Y9 H b z k s):Y9 (upd H m o) b z k s:=by
 obtain⟨d,h1,h2⟩:=h
 refine⟨d,by rw [zI (yN h1 hm (by intro z;cases z))];exact h1,?_⟩
 rcases h2 with ⟨t,e,h2⟩ | h2
 · exact .inl ⟨t,e,by rw [zI (yN h2 hm (by intro z;cases z))];exact h2⟩
 · exact .inr h2
theorem Mu {H:Hp}{m:Addr}{o:HO}{l:List V} (hm:H m=some (.lst l)) {z:Str}{k:Kn}{bs:List V}{sp:List jf} (h:Paired (BxL H z k) bs sp):Paired (BxL (upd H m o) z k) bs sp:=zH h fun _ _ ⟨b,e,k⟩=>⟨b,e,Mt hm k⟩
theorem adq {i j l:Nat}{σ:St}{H:Hp}{cv:V}{k m:Int}{Q:Bool→Hp→Prop} (h1:σ[i]? = some (some cv)) (h2:σ[j]? = some (some (.int k))) (h3:σ[l]? = some (some (.int m))) (q:Q (!decide (cv=V.non) && decide (k<m)) H) :
   T7 (rD (PK (fun x y H Q=>y=V.non∧Q (.bl (!decide (x=V.non))) H) (mJ i) (tC .non))) (rD (PK (Sw fun i j=>.bl (decide (i<j))) (mJ j) (mJ l))) σ H Q:=by
 refine⟨_,h1,rfl,_,rfl,?_⟩
 by_cases e:cv=V.non
 · rw [decide_eq_true e] at q ⊢
   exact aF q
 · rw [decide_eq_false e] at q ⊢
   exact bA ⟨_,h2,_,h3,_,_,rfl,rfl,_,rfl,q⟩
theorem ni2 {x a b:Addr} (h:x≠a) (k:x≠b):x∉[a,b]:=fun e=>by
 simp only [List.mem_cons,List.not_mem_nil,or_false] at e
 exact e.elim h k
def ahn (A:cM) (Pt:Addr):Sp:=fun vs H Q _=>∃ (N:Nm) (pa:Addr) (mo:Nat) (x:Kn) (y:Sy) (s:jf) (out:List Nd),vs=[.ref pa,.int (mo:Nat),.non]∧PQ A N H pa (SS N x y)∧N 0≠N 1∧Ly x y.1∧Mf y.1.h∧s.1≤s.2∧s=(x.lo,x.hi)∧H Pt=some (.iI Es)∧mo≤64∧NF y.1 mo [s] [] 0 out ∧
 ∀ p H',aA H H'→fG (fun a=>H a=none) H' 4 (.ref p) (.lst (out.map (PX N y.1 y.2)))→Q (.ref p) H'
section
variable {P:Program}{w:World}{K:W.Frag}{mg:Str→Option Value}{base:Heap}{A:cM}{Pt:Addr}
variable (B:BMain mg base) {c0:Addr} (hc:A.aP.code=.ref c0) (hh:W.codeHdIn K c0 Pt=true)
include B hc hh
theorem Yu (T:Txt K mg A):aG P w K mg base bQ 14 A.Er A.KD ["paper","most","fixed"] (ahn A Pt):=by
 have oH:=tW (P:=P) (w:=w) (base:=base) T
 have RX:=ag0 (P:=P) (w:=w) (base:=base) B hc hh T
 have RZ:=Pr (P:=P) (w:=w) (base:=base) T
 have Py:=Mr (P:=P) (w:=w) (base:=base) T
 refine T.Z3.ok jz (fun vs H Q E h=>?_) (fun cdv A0 outer s H vs Q E hr h=>?_)
 · obtain⟨N,pa,mo,x,y,s,out,rfl,_⟩:=h
   rfl
 obtain⟨N,pa,mo,x,y,s,out,rfl,hP,hN,hAt,hw,hle,hB,hT,hmo,RW,q⟩:=h
 refine⟨_,(zC (zT (i:=3) jz.nd rfl ‹0› (zU oH ‹hr› rfl T.vX T.vW T.vV .nil zQ (zA (pv 0) zD)))
     (zC (zT (i:=4) jz.nd rfl ‹0› (yJ (zA (lB (zL xS (pv 2) yQ (zN _)) M7 (xQ Cp (by rfl) T.Rh Bt.dict (zA (pv 2) zD))) zD)))
     (zC (zT (i:=5) jz.nd rfl ‹0› (yJ zD))
     (zC (zT (i:=6) jz.nd rfl ‹0› zF)
     (zC (Ab PassesOwn.never (zL oM (zW yB (by rfl) T.jC PySem.boot_len (zA (pv 5) zD)) (zW yB (by rfl) T.jC PySem.boot_len (zA (pv 4) zD)) (zN _)) (zC (zT (i:=7) jz.nd rfl ‹0› (zS bj (pv 4) (zW yB (by rfl) T.jC PySem.boot_len (zA (pv 5) zD)) (fun _ _=>rfl)))
     (zC (zT (i:=8) jz.nd rfl ‹0› (zU RX ‹hr› rfl T.QL T.QK T.QJ .nil zQ (zA (pv 0) (zA (pv 7) zD))))
     (zC (zT (i:=9) jz.nd rfl ‹0› (zS zX (pv 8) zF (fun _ _=>rfl)))
     (zE (zZ (PW.pt (xI (zL wO (pv 9) yQ (zN _)) (yY (zL oM (pv 6) (pv 1) (zN _))))) (zC (Vw (i:=6) jz.nd rfl ‹0› zF VM)
     (zC (yG (mC PySem.F.plainAttrs_list PySem.F.slot_list_append PySem.F.type_list_append yU (pv 5) (zA (zY Km (zY Km (yA (zA zM zD)) (pv 9)) (yA (zA (zW yB (by rfl) T.jC PySem.boot_len (zA (pv 4) zD)) (zA (zY xE (zW yB (by rfl) T.jC PySem.boot_len (zA (pv 4) zD)) zF) zD)))) zD)))
     (zE (yG (mC PySem.F.plainAttrs_list PySem.F.slot_list_extend PySem.F.type_list_extend Ui (pv 4) (zA (zU RZ ‹hr› rfl T.QT T.QS T.QR .nil zQ (zA (pv 7) (zA (pv 3) (zA (zS zX (pv 9) zF (fun _ _=>rfl)) (zA (zS zX (pv 9) zF (fun _ _=>rfl)) (zA (zS zX (pv 9) zF (fun _ _=>rfl)) zD)))))) zD)))))) (zE (yG (mC PySem.F.plainAttrs_list PySem.F.slot_list_append PySem.F.type_list_append yU (pv 5) (zA (yA (zA zM (zA (zS zX (pv 8) zF (fun _ _=>rfl)) (zA (zS zX (pv 8) zF (fun _ _=>rfl)) (zA (zU Py ‹hr› rfl T.Oa T.N8 T.N7 .nil zQ (zA (zS zX (pv 8) zF (fun _ _=>rfl)) (zA (pv 7) (zA (pv 3) zD)))) (zA (zS zX (pv 8) zF (fun _ _=>rfl)) zD)))))) zD))))))))))
     (zE (zK (pv 5)))))))),?_⟩
 have hGS:=abB hN hAt
 refine⟨_,rfl,N,pa,SS N x y,rfl,hP,hGS,fun kd kvs H1 fk s1 hk hK=>?_⟩
 have hK:=hK.kq (.of s1)
 dsimp only [bU,List.set_cons_succ,List.set_cons_zero]
 refine⟨_,rfl,rfl,_,rfl,bA fun d hd=>?_⟩
 have s2:=zG hd (.dT [])
 refine⟨(by show 1≤sizeLine;decide),fun bl YX=>?_⟩
 have s3:=zG YX (.lst [.ref d])
 refine⟨(by show 0≤sizeLine;decide),fun nl hnl=>?_⟩
 have s4:=zG hnl (.lst [])
 have s13:aA H1 (upd (upd H1 d (.dT [])) bl (.lst [.ref d])):=s2.trans s3
 have aaN:=s4 _ _ (show (upd (upd H1 d (.dT [])) bl (.lst [.ref d])) bl=some (.lst [.ref d]) from zB)
 have Mq:(upd (upd (upd H1 d (.dT [])) bl (.lst [.ref d])) nl (.lst [])) nl=some (.lst []):=zB
 have hd2:=(s3.trans s4) _ _ (show (upd H1 d (.dT [])) d=some (.dT []) from zB)
 have sHc:=s13.trans s4
 have nb1:=yE s2 YX
 have nn1:=yE s13 hnl
 have nbn:bl≠nl:=zJ (show (upd (upd H1 d (.dT [])) bl (.lst [.ref d])) bl=some _ from zB) hnl
 dsimp only [bU,List.set_cons_succ,List.set_cons_zero]
 generalize upd (upd (upd H1 d (HO.dT [])) bl (HO.lst [.ref d])) nl (HO.lst [])=Hc at sHc aaN Mq hd2 ⊢
 clear s2 s3 s4 s13
 have nF:¬ (fun a=>Hc a=none) nl:=fun z=>by rw [show Hc nl=none from z] at Mq;cases Mq
 have bF:¬ (fun a=>Hc a=none) bl:=fun z=>by rw [show Hc bl=none from z] at aaN;cases aaN
 have old:∀ {M:Hp},Ky [bl,nl] Hc M→aA H1 M:=fun {M} hK b o e=>hK.fr _ _ (sHc _ _ e) (ni2 (zJ e nb1) (zJ e nn1))
 refine⟨fun m σ H'=>∃ bs nx u7 u8 u9 sp nd,∃ k:Nat,σ=[some (.ref pa),some (.int (mo:Nat)),some .non,some (.ref kd),some (.ref bl),some (.ref nl),some (.int (k:Nat)),u7,u8,u9]∧Ky [bl,nl] Hc H'∧H' bl=some (.lst bs)∧Paired (BxL H' (N 0) x) bs sp∧H' nl=some (.lst nx)∧Paired (fG (fun a=>Hc a=none) H' 3) nx (nd.map (PX N y.1 y.2))∧nd.length≤sp.length∧sp.length≤1+2*k∧k≤mo∧(∀ s∈sp,s.1≤s.2)∧NF y.1 mo sp nd k out∧m=2*(mo - k)+(sp.length - nd.length),
   ⟨_,[.ref d],[],_,_,_,[s],[],0,rfl,⟨Fr.of (aA.refl _),fun _ z=>z⟩,aaN,.cons ⟨d,rfl,_,hd2,.inr ⟨rfl,hB⟩⟩ .nil,Mq,.nil,Nat.zero_le _,Nat.le_refl _,Nat.zero_le _,fun s' h'=>by rw [List.mem_singleton.mp h'];exact hle,RW,rfl⟩,?_⟩
 rintro m σ H2 ⟨bs,nx,u7,u8,u9,sp,nd,k,rfl,hKy,hb,hbs,hn,hnd,hl1,hl2,hk2,hall,hF,rfl⟩
 have ls:=zV hbs
 have ln:=zV hnd
 rw [List.length_map] at ln
 refine⟨_,rfl,nl,_,rfl,.inl (bR.of hn),_,rfl,bl,_,rfl,.inl (bR.of hb),_,_,rfl,rfl,_,rfl,lC (fun dd=>?_) (fun dd=>?_)⟩
 · have dd:((nx.length:Nat):Int)<(bs.length:Nat):=of_decide_eq_true dd
   have S2:=old hKy
   obtain⟨x0,hx⟩:∃ x,bs[nd.length]? = some x:=⟨_,List.getElem?_eq_getElem (by omega)⟩
   obtain⟨s,hss,b,rfl,hbx⟩:=yF hbs hx
   have aaK:=hall s (List.mem_of_getElem? hss)
   have lf:¬ (oK y s=none∧k<mo)→NF y.1 mo sp (nd++[.lf s]) k out:=fun c=>by
     cases hF with
     | done z=>omega
     | split z1 z2 z3 _=>rw [hss] at z1;cases z1;exact absurd ⟨z2,z3⟩ c
     | leaf z1 _ z3=>rw [hss] at z1;cases z1;exact z3
   have sf:oK y s=none→k<mo→NF y.1 mo (sp++[(s.1,kj y.1 s.1),(kj y.1 s.1+1,s.2)]) (nd++[.sp (kj y.1 s.1) sp.length]) (k+1) out:=fun c1 c2=>by
     cases hF with
     | done z=>omega
     | split z1 z2 z3 z4=>rw [hss] at z1;cases z1;exact z4
     | leaf z1 z2 _=>rw [hss] at z1;cases z1;exact absurd ⟨c1,c2⟩ z2
   have aaL:=fun z=>RT (s:=s) hw aaK z
   obtain⟨l,hfin⟩:=ado (N:=N) (x:=x) (y:=y) (s:=s)
   refine⟨fun σ' H'=>∃ bs nx u7 u8 u9 Fb rO,∃ k':Nat,σ'=[some (.ref pa),some (.int (mo:Nat)),some .non,some (.ref kd),some (.ref bl),some (.ref nl),some (.int (k':Nat)),u7,u8,u9]∧Ky [bl,nl] Hc H'∧H' bl=some (.lst bs)∧Paired (BxL H' (N 0) x) bs Fb∧H' nl=some (.lst nx)∧Paired (fG (fun a=>Hc a=none) H' 3) nx (rO.map (PX N y.1 y.2))∧rO.length≤Fb.length∧Fb.length≤1+2*k'∧k'≤mo∧(∀ s∈Fb,s.1≤s.2)∧NF y.1 mo Fb rO k' out∧2*(mo - k')+(Fb.length - rO.length)<2*(mo - k)+(sp.length - nd.length),fun σ' H' z=>?_,?_⟩
   · obtain⟨bs,nx,u7,u8,u9,Fb,rO,k',h1,h2,h4,h5,h6,h7,h8,h9,h10,h11,h12,h13⟩:=z
     exact⟨_,h13,bs,nx,u7,u8,u9,Fb,rO,k',h1,h2,h4,h5,h6,h7,h8,h9,h10,h11,h12,rfl⟩
   refine⟨_,rfl,_,rfl,nl,_,rfl,.inl (bR.of hn),bl,_,_,_,rfl,rfl,bR.of hb,(by rw [ln];exact zR hx),?_⟩
   dsimp only [bU,List.set_cons_succ,List.set_cons_zero]
   refine⟨_,rfl,_,rfl,N,pa,b,SS N x y,pW N s,_,rfl,hP.kq (.of (s1.trans S2)),hGS,Yt hN hbx,(s1.trans S2) _ _ hT,ahl,hfin,fun x3 H3 s3 hR=>?_⟩
   obtain⟨p,lg,db,ts,cv,rfl,f1,f2,ld,hp,RQ,hts,hdb,hcv⟩:=hR
   have hts:Paired (jB H3) ts (rR N (oK y s) y.2):=hts
   have hdb:H3 db=some (.lst []):=hdb
   have hcv:XM H3 cv (Px N y s):=hcv
   have hp:H3 p=some (.tup [.bl (decide (Px N y s=none)),.ref lg,.ref db,cv]):=hp
   have K3:=hKy.same s3
   have hb3:=s3 _ _ hb
   have Za:=s3 _ _ hn
   have ahp:=zp s3 hbs
   have ahq:Paired (fG (fun a=>Hc a=none) H3 3) nx (nd.map (PX N y.1 y.2)):=zH hnd fun _ _ z=>fG.same s3 z
   have ahr:=hbx.kq (.of s3)
   have S3:=S2.trans s3
   have hk3:=S3 _ _ hk
   have hK3:=hK.kq (.of S3)
   have f1:=hKy.dm lg f1
   have f2:=hKy.dm db f2
   have hp':dH K H3 p _:=dH.of hp
   have i0:iM [V.bl (decide (Px N y s=none)),.ref lg,.ref db,cv] ((0:Nat):Int)=some (.bl (decide (Px N y s=none))):=zR rfl
   have i1:iM [V.bl (decide (Px N y s=none)),.ref lg,.ref db,cv] ((1:Nat):Int)=some (.ref lg):=zR rfl
   have i2:iM [V.bl (decide (Px N y s=none)),.ref lg,.ref db,cv] ((2:Nat):Int)=some (.ref db):=zR rfl
   have i3:iM [V.bl (decide (Px N y s=none)),.ref lg,.ref db,cv] ((3:Nat):Int)=some cv:=zR rfl
   clear hfin hbx hbs hnd hb hn s3 hP
   dsimp only [bU,List.set_cons_succ,List.set_cons_zero]
   refine⟨_,rfl,p,_,_,_,rfl,rfl,hp',i3,?_⟩
   dsimp only [bU,List.set_cons_succ,List.set_cons_zero]
   refine adq rfl rfl rfl ?_
   have hcn:cv=.non↔oK y s≠none:=by
     unfold Px at hcv
     constructor
     · intro e z
       rw [if_pos z] at hcv
       obtain⟨a,ea,_⟩:=(show jB H3 cv _ from hcv)
       rw [e] at ea;cases ea
     · intro z
       rw [if_neg z] at hcv;exact hcv
   refine lC (fun c=>?_) (fun c=>?_)
   · have c:oK y s=none∧(k:Int)<mo:=by
       rw [Bool.and_eq_true,Bool.not_eq_true',decide_eq_false_iff_not] at c
       refine⟨?_,of_decide_eq_true c.2⟩
       cases e:oK y s with
       | none=>rfl
       | some v=>exact absurd (hcn.mpr (by rw [e];exact nofun)) c.1
     have hF2:=sf c.1 (by omega)
     have hc2:=aaL c.1
     unfold Px at hcv
     rw [if_pos c.1] at hcv
     obtain⟨ca,rfl,hca⟩:=(show jB H3 cv _ from hcv)
     generalize kj y.1 s.1=cut at hF2 hc2 hca
     have hca:H3 ca=some (.tup [.str (N 0),.int 0,.int cut]):=hca
     have c0':iM [V.str (N 0),.int 0,.int cut] ((0:Nat):Int)=some (.str (N 0)):=zR rfl
     have c1':iM [V.str (N 0),.int 0,.int cut] ((1:Nat):Int)=some (.int 0):=zR rfl
     have c2':iM [V.str (N 0),.int 0,.int cut] ((2:Nat):Int)=some (.int cut):=zR rfl
     refine⟨_,rfl,_,_,rfl,rfl,?_⟩
     dsimp only [bU,List.set_cons_succ,List.set_cons_zero]
     refine⟨_,rfl,.inl ⟨rfl,_,bR.of Za⟩,(by show 1≤sizeLine;decide),fun t1 ht1=>?_⟩
     have a1:=zG ht1 (.tup [.str ‹"split"›])
     refine⟨_,rfl,t1,ca,_,_,rfl,rfl,dH.of zB,dH.of (a1 _ _ hca),by simp,(by show 4≤sizeLine;decide),(fun z=>by cases z),fun _ t2 Lz=>?_⟩
     have a2:=zG Lz (.tup ([V.str ‹"split"›]++[V.str (N 0),.int 0,.int cut]))
     have a12:=a1.trans a2
     refine⟨_,rfl,bl,_,rfl,.inl (bR.of (a12 _ _ hb3)),_,rfl,bl,_,rfl,.inl (bR.of (a12 _ _ hb3)),_,_,rfl,rfl,(by show 2≤sizeLine;decide),fun t3 ht3=>?_⟩
     have a3:=zG ht3 (.tup [.int (bs.length:Nat),.int ((bs.length:Nat)+1:Int)])
     refine⟨t2,t3,_,_,rfl,rfl,dH.of (a3 _ _ zB),dH.of zB,by simp,(by show 6≤sizeLine;decide),(fun z=>by cases z),fun _ t4 ht4=>?_⟩
     have a4:=zG ht4 (.tup ([V.str ‹"split"›]++[V.str (N 0),.int 0,.int cut]++[.int (bs.length:Nat),.int ((bs.length:Nat)+1:Int)]))
     have a14:=(a12.trans a3).trans a4
     have hT4:(upd (upd (upd (upd H3 t1 (.tup [.str ‹"split"›])) t2 (.tup ([V.str ‹"split"›]++[V.str (N 0),.int 0,.int cut]))) t3 (.tup [.int (bs.length:Nat),.int ((bs.length:Nat)+1:Int)])) t4 (.tup ([V.str ‹"split"›]++[V.str (N 0),.int 0,.int cut]++[.int (bs.length:Nat),.int ((bs.length:Nat)+1:Int)]))) t4=some (.tup [.str ‹"split"›,.str (N 0),.int 0,.int cut,.int (bs.length:Nat),.int ((bs.length:Nat)+1:Int)]):=zB
     refine⟨nl,_,_,rfl,rfl,a14 _ _ Za,yK (m:=1000) (by omega),?_⟩
     generalize upd (upd (upd (upd H3 t1 (HO.tup [.str ‹"split"›])) t2 (HO.tup ([V.str ‹"split"›]++[V.str (N 0),.int 0,.int cut]))) t3 (HO.tup [.int (bs.length:Nat),.int ((bs.length:Nat)+1:Int)])) t4 (HO.tup ([V.str ‹"split"›]++[V.str (N 0),.int 0,.int cut]++[.int (bs.length:Nat),.int ((bs.length:Nat)+1:Int)]))=H4 at a14 hT4 ⊢
     have tr:fG (fun a=>Hc a=none) H4 3 (.ref t4) (HH N cut bs.length):=⟨t4,_,rfl,hT4,(by show 6≤1000;decide),pC abz⟩
     have nd5:=Ml (a14 _ _ Za) nF (zH ahq fun _ _ z=>fG.same a14 z) tr
     have K5:=(K3.same a14).upd (m:=nl) (List.mem_cons_of_mem _ (List.mem_singleton.mpr rfl)) (.lst (nx++[.ref t4]))
     have hb5:(upd H4 nl (.lst (nx++[.ref t4]))) bl=some (.lst bs):=by rw [zI nbn];exact a14 _ _ hb3
     have hn5:(upd H4 nl (.lst (nx++[.ref t4]))) nl=some (.lst (nx++[.ref t4])):=zB
     have ahs:=Mu (o:=.lst (nx++[.ref t4])) (a14 _ _ Za) (zp a14 ahp)
     have adu:=Mt (o:=.lst (nx++[.ref t4])) (a14 _ _ Za) (ahr.kq (.of a14))
     have aht:(upd H4 nl (.lst (nx++[.ref t4]))) ca=some (.tup [.str (N 0),.int 0,.int cut]):=by rw [zI (yN hca Za (by intro z;cases z))];exact a14 _ _ hca
     generalize upd H4 nl (HO.lst (nx++[.ref t4]))=H5 at nd5 K5 hb5 hn5 ahs adu aht ⊢
     have S5:=old K5
     have hca':dH K H5 ca _:=dH.of aht
     refine⟨_,rfl,.inl ⟨rfl,_,bR.of hb5⟩,_,rfl,_,rfl,_,rfl,ca,_,_,_,rfl,rfl,hca',c0',_,rfl,ca,_,_,_,rfl,rfl,hca',c1',_,rfl,ca,_,_,_,rfl,rfl,hca',c2',b,kd,kvs,SS N x y,pW N s,⟨N 0,x,none⟩,s,cut,rfl,S5 _ _ hk,hK.kq (.of S5),Yt hN adu,Ys,CZ,adu,fun p2 b1 b2 H6 s6 hp2 hb1 hb2=>?_⟩
     have Zb:=s6 _ _ hb5
     refine⟨bl,p2,_,_,rfl,rfl,Zb,hp2,yK (m:=1000) (by show bs.length+2≤1000;omega),?_⟩
     refine⟨bs++[.ref b1,.ref b2],nx++[.ref t4],_,_,_,sp++[(s.1,cut),(cut+1,s.2)],nd++[.sp cut sp.length],k+1,rfl,(K5.same s6).upd List.mem_cons_self _,zB,xH (Mu Zb (zp s6 ahs)) (.cons ⟨b1,rfl,Mt Zb hb1⟩ (.cons ⟨b2,rfl,Mt Zb hb2⟩ .nil)),by rw [zI (Ne.symm nbn)];exact s6 _ _ hn5,?_,?_,?_,by omega,?_,hF2,?_⟩
     · rw [List.map_append]
       show Paired _ _ (nd.map (PX N y.1 y.2)++[HH N cut sp.length])
       rw [← ls];exact zH nd5 fun _ _ z=>fG.upd Zb bF (fG.same s6 z)
     · simp only [List.length_append,List.length_cons,List.length_nil];omega
     · simp only [List.length_append,List.length_cons,List.length_nil];omega
     · intro s' h'
       rcases List.mem_append.mp h' with h' | h'
       · exact hall s' h'
       · simp only [List.mem_cons,List.not_mem_nil,or_false] at h'
         rcases h' with rfl | rfl
         · exact hc2.1
         · exact hc2.2
     · simp only [List.length_append,List.length_cons,List.length_nil];omega
   · have c:¬ (oK y s=none∧k<mo):=fun z=>c (by
       rw [decide_eq_false (fun e=>hcn.mp e z.1),decide_eq_true (show (k:Int)<mo by omega)];rfl)
     have adn:∀ n,some n∈TQ N (oK y s) y.2→Hy (SS N x y) n:=fun n hn=>by
       unfold TQ at hn
       rcases List.mem_append.mp hn with hn | hn
       · rcases List.mem_append.mp hn with hn | hn
         · cases List.mem_singleton.mp hn;exact⟨_,Ys,rfl⟩
         · split at hn
           · cases List.mem_singleton.mp hn;exact⟨_,auA,rfl⟩
           · cases hn
       · split at hn
         · cases hn
         · cases List.mem_singleton.mp hn
     have lle:(TQ N (oK y s) y.2).length≤100:=by
       have:=(Mj N (oK y s) y.2).1
       rw [Ms,List.length_map] at this
       omega
     refine⟨_,rfl,.inl ⟨rfl,_,bR.of Za⟩,_,rfl,p,_,_,_,rfl,rfl,hp',i0,_,rfl,p,_,_,_,rfl,rfl,hp',i1,_,rfl,p,_,_,_,rfl,rfl,hp',i1,_,rfl,_,rfl,lg,ts,TQ N (oK y s) y.2,b,kd,kvs,SS N x y,pW N s,rfl,RQ,(by rw [← Ms];exact hts),adn,lle,hk3,hK3,Yt hN ahr,fun rp us H4 s4 nrp hrp hus=>?_⟩
     rw [← adp hN] at hus
     refine⟨_,rfl,p,_,_,_,rfl,rfl,s4.pH hp',i2,(by show 5≤sizeLine;decide),fun tp htp=>?_⟩
     have s5:=zG htp (.tup [.str ‹"leaf"›,.bl (decide (Px N y s=none)),.ref lg,.ref rp,.ref db])
     have Zc:=s4.trans s5
     obtain⟨l1,l2⟩:=Mj N (oK y s) y.2
     obtain⟨r1,r2⟩:=Yo N (oK y s) y.2 s
     have eb:decide (Px N y s=none)=!decide (oK y s=none):=by
       unfold Px
       cases oK y s with
       | none=>rfl
       | some _=>rfl
     have tr:fG (fun a=>Hc a=none) (upd H4 tp (.tup [.str ‹"leaf"›,.bl (decide (Px N y s=none)),.ref lg,.ref rp,.ref db])) 3 (.ref tp) (HF N (oK y s) y.2 s):=by
       refine⟨tp,_,rfl,zB,(by show 5≤1000;decide),.cons ⟨rfl,trivial⟩ (.cons ⟨by rw [eb],trivial⟩ (.cons ⟨lg,ts,rfl,Zc _ _ RQ,by rw [zV hts];omega,Et (zH hts fun _ _=>jB.kq (.of Zc)) l2,f1⟩ (.cons ⟨rp,us,rfl,s5 _ _ hrp,by rw [zV hus];omega,Et (zH hus fun _ _=>jB.kq (.of s5)) r2,K3.dm rp nrp⟩ (.cons ⟨db,[],rfl,Zc _ _ hdb,Nat.zero_le _,.nil,f2⟩ .nil))))⟩
     have nd5:=Ml (Zc _ _ Za) nF (zH ahq fun _ _ z=>fG.same Zc z) tr
     refine⟨nl,_,_,rfl,rfl,Zc _ _ Za,yK (m:=1000) (by omega),?_⟩
     refine⟨bs,_,_,_,_,sp,nd++[.lf s],k,rfl,(K3.same Zc).upd (List.mem_cons_of_mem _ (List.mem_singleton.mpr rfl)) _,by rw [zI nbn];exact Zc _ _ hb3,Mu (Zc _ _ Za) (zp Zc ahp),zB,?_,?_,hl2,hk2,hall,lf c,?_⟩
     · rw [List.map_append];exact nd5
     · simp only [List.length_append,List.length_cons,List.length_nil];omega
     · simp only [List.length_append,List.length_cons,List.length_nil];omega
 · have dd:¬ (((nx.length:Nat):Int)<(bs.length:Nat)):=fun z=>dd (decide_eq_true z)
   cases hF with
   | done _ =>
     refine⟨_,rfl,q nl H2 (s1.trans (old hKy)) ⟨nl,nx,rfl,hn,by omega,zH hnd fun _ _ z=>fG.weak (fun a za=>yE (s1.trans sHc) za) z,yE s1 nn1⟩⟩
   | split z1 _ _ _=>have:=(List.getElem?_eq_some_iff.mp z1).1;omega
   | leaf z1 _ _=>have:=(List.getElem?_eq_some_iff.mp z1).1;omega
end
def S6:List Str:=[‹"a"›,‹"b"›,‹"c"›,‹"d"›,‹"e"›,‹"f"›]
def smp (x:Kn) (r:Int):Tr:=match x with
 | .yn=>.leaf (.bl (decide (r=1)))
 | .pk ws=>.leaf (.str ((ws[r.toNat]?).getD ‹""›))
 | .nm _=>tpT ((S6.take r.toNat).map V.str)
 | .mo _ _=>.leaf (.int r)
 | .wh _ _=>.leaf (.int r)
def kcl:Kn→Nat
 | .yn=>0
 | .pk _=>1
 | .nm _=>2
 | .mo _ _=>3
 | .wh _ _=>3
theorem ahu (l:List Str):∀ v∈l.map V.str,mG v:=fun v hv=>by
 obtain⟨z,_,rfl⟩:=List.mem_map.mp hv
 trivial
theorem zr {K:W.Frag}{H:Hp}{n:Nat}:∀ {l:List V},(∀ v∈l,mG v)→Paired (mH K H n) l (l.map Tr.leaf)
 | [],_=>.nil
 | v::l,h=>.cons (by
     have:=h v List.mem_cons_self
     cases n <;> exact⟨rfl,this⟩) (zr fun u hu=>h u (List.mem_cons_of_mem _ hu))
theorem ahv {r:Int} (h:0≤r):pG (S6.map V.str) none (some r)=(S6.take r.toNat).map V.str:=by
 obtain⟨k,rfl⟩:∃ k:Nat,r=k:=⟨r.toNat,by omega⟩
 unfold pG
 rw [HT.Fd,HT.Kh,List.drop_zero,Nat.sub_zero,Int.toNat_natCast,List.map_take]
 show (S6.map V.str).take (min k 6)=_
 by_cases e:k≤6
 · rw [Nat.min_eq_left e]
 · rw [Nat.min_eq_right (by omega),List.take_of_length_le (by rw [List.length_map];show 6≤6;decide),List.take_of_length_le (by rw [List.length_map];show 6≤k;omega)]
theorem aaO {K:W.Frag}{H:Hp}{a:Addr}{r:Int} (h:Yh K H a ((S6.take r.toNat).map V.str)):mH K H 1 (.ref a) (tpT ((S6.take r.toNat).map V.str)):=⟨a,_,rfl,h,by
 rw [List.length_map,List.length_take];show min r.toNat 6≤1000;omega,zr (ahu _)⟩
def Yv (A:cM) (K:W.Frag) (c:Nat):Sp:=fun vs H Q _=>∃ k x r,vs=[.ref k,.int r]∧PN A H k x∧TF x∧x.lo≤r∧r≤x.hi∧kcl x=c∧∀ v H',aA H H'→mH K H' 1 v (smp x r)→Q v H'
section
variable {P:Program}{w:World}{K:W.Frag}{mg:Str→Option Value}{base:Heap}{A:cM}
theorem R3 (T:Txt K mg A):aG P w K mg base bQ 1 A.jJ A.jK ["self","rank"] (Yv A K 0):=by
 refine T.Am.ok yq (fun vs H Q E h=>?_) (fun cdv A0 outer s H vs Q E hr h=>?_)
 · obtain⟨k,x,r,rfl,_⟩:=h
   rfl
 obtain⟨k,x,r,rfl,hk,hK,h0,h1,hc,q⟩:=h
 refine⟨_,(zE (zK (xF yM (pv 1) zF (zN _)))),?_⟩
 cases x with
 | yn =>
   refine⟨_,rfl,rfl,q _ _ (aA.refl _) ⟨?_,trivial⟩⟩
   show V.bl (decide (V.int r=V.int 1))=_
   rw [deI]
 | _=>cases hc
theorem HQ (T:Txt K mg A):aG P w K mg base bQ 1 A.gJ A.jL ["self","rank"] (Yv A K 3):=by
 refine T.Ao.ok yr (fun vs H Q E h=>?_) (fun cdv A0 outer s H vs Q E hr h=>?_)
 · obtain⟨k,x,r,rfl,_⟩:=h
   rfl
 obtain⟨k,x,r,rfl,hk,hK,h0,h1,hc,q⟩:=h
 refine⟨_,(zE (zK (pv 1))),?_⟩
 cases x with
 | mo lo hi=>exact⟨_,rfl,q _ _ (aA.refl _) ⟨rfl,trivial⟩⟩
 | wh lo hi=>exact⟨_,rfl,q _ _ (aA.refl _) ⟨rfl,trivial⟩⟩
 | _=>cases hc
theorem R6 (T:Txt K mg A):aG P w K mg base bQ 1 A.lR A.lU ["self","rank"] (Yv A K 1):=by
 refine T.Dp.ok BJ (fun vs H Q E h=>?_) (fun cdv A0 outer s H vs Q E hr h=>?_)
 · obtain⟨k,x,r,rfl,_⟩:=h
   rfl
 obtain⟨k,x,r,rfl,hk,hK,h0,h1,hc,q⟩:=h
 refine⟨_,(zE (zK (zS bj (zO (pv 0) rfl) (pv 1) (fun _ _=>rfl)))),?_⟩
 cases x with
 | pk ws =>
   obtain⟨dk,q',hk,hq⟩:=hk
   have hq:=(hq ws rfl).2
   have hk:H k=some (oPk A dk (ws.length - 1) q'):=hk
   have h0:0≤r:=h0
   have h1:r≤(ws.length:Int) - 1:=h1
   have hat:iM (ws.map V.str) r=some (.str ((ws[r.toNat]?).getD ‹""›)):=by
     obtain⟨v,hv,hv2⟩:=qy (l:=ws.map V.str) (i:=r) h0 (by rw [List.length_map];omega)
     obtain⟨z,hz,rfl⟩:=oO hv2
     rw [hv,hz];rfl
   exact⟨_,rfl,k,_,dk,_,_,rfl,hk,T.kW,T.kY,rfl,_,rfl,q',_,_,_,rfl,rfl,bR.of hq,hat,q _ _ (aA.refl _) ⟨rfl,trivial⟩⟩
 | _=>cases hc
theorem R8 (T:Txt K mg A):aG P w K mg base bQ 1 A.jO A.jP ["self","rank"] (Yv A K 2):=by
 refine T.Av.ok yu (fun vs H Q E h=>?_) (fun cdv A0 outer s H vs Q E hr h=>?_)
 · obtain⟨k,x,r,rfl,_⟩:=h
   rfl
 obtain⟨k,x,r,rfl,hk,hK,h0,h1,hc,q⟩:=h
 refine⟨_,(zE (zK (pY Ep (wY rfl T.GJ) ue (uf (pv 1))))),?_⟩
 cases x with
 | nm hi =>
   have h0:0≤r:=h0
   have hq:Yh K H A.gD (S6.map V.str):=Yh.own T.GK H
   have ec:=ahv h0
   by_cases e:HT.gq (S6.map V.str).length 0 none=0∧HT.gq (S6.map V.str).length (S6.map V.str).length (some r)=(S6.map V.str).length
   · refine⟨_,rfl,_,rfl,A.gD,_,rfl,hq.sq,.inl ⟨e,q _ _ (aA.refl _) (aaO ?_)⟩⟩
     have:(S6.map V.str).take 6=pG (S6.map V.str) none (some r):=by
       unfold pG
       rw [e.1,e.2,List.drop_zero];rfl
     rw [← ec,← this];exact hq
   · refine⟨_,rfl,_,rfl,A.gD,_,rfl,hq.sq,.inr ⟨e,fun p hp=>?_⟩⟩
     refine q _ _ (zG hp _) (aaO (.inl ?_))
     rw [← ec];exact zB
 | _=>cases hc
theorem mSm (T:Txt K mg A) {H:Hp}{k:Addr}{x:Kn} (h:PN A H k x):∃ (C dx:Addr) (fs:List (Str × V)) (M:dI P w K mg base bQ 4 C "sample"),H k=some (.ins C dx fs)∧fs.lookup ‹"sample"› = none∧M.rE=[]∧M.sp=Yv A K (kcl x):=by
 obtain⟨dk,q,h,_⟩:=h
 cases x with
 | yn=>exact⟨_,dk,_,⟨_,_,_,_,[],[],T.qj,T.DN,(R3 T).mono (by decide),T.An,.nil⟩,h,rfl,rfl,rfl⟩
 | pk ws=>exact⟨_,dk,_,⟨_,_,_,_,[],[],T.kW,T.Hi,(R6 T).mono (by decide),T.Dq,.nil⟩,h,rfl,rfl,rfl⟩
 | nm hi=>exact⟨_,dk,_,⟨_,_,_,_,[],[],T.Hh,T.DR,(R8 T).mono (by decide),T.Aw,.nil⟩,h,rfl,rfl,rfl⟩
 | mo lo hi=>exact⟨_,dk,_,⟨_,_,_,_,[],[],T.Hg,T.DQ,(HQ T).mono (by decide),T.qi,.nil⟩,h,rfl,rfl,rfl⟩
 | wh lo hi=>exact⟨_,dk,_,⟨_,_,_,_,[],[],T.Hf,T.DP,(HQ T).mono (by decide),T.qi,.nil⟩,h,rfl,rfl,rfl⟩
end
def Vo (n:Str):List (Option Str)→Option Nat
 | []=>none
 | some m::r=>if m=n then some 0 else (Vo n r).map (· + 1)
 | none::r=>Vo n r
def auE:Option Nat→V
 | none=>.non
 | some k=>.int (k:Nat)
def ahw:Sp:=fun vs H Q _=>∃ (lg:Addr) (ts:List V) (ls:List (Option Str)) (n:Str),vs=[.ref lg,.str ‹"ask"›,.str n]∧H lg=some (.lst ts)∧Paired (jB H) ts (ls.map adm)∧ls.length≤100∧∀ H',aA H H'→Q (auE (Vo n ls)) H'
theorem Eo {α:Type}{l:List α}{i:Nat}{x:α} (h:l[i]? = some x):l.drop i=x::l.drop (i+1):=by
 obtain⟨h1,h2⟩:=List.getElem?_eq_some_iff.mp h
 rw [← h2];exact List.drop_eq_getElem_cons h1
section
variable {P:Program}{w:World}{K:W.Frag}{mg:Str→Option Value}{base:Heap}{A:cM}
theorem Yw (T:Txt K mg A):aG P w K mg base bQ 1 A.gK A.j5 ["log","word","name"] ahw:=by
 refine T.Bh.ok gh (fun vs H Q E h=>?_) (fun cdv A0 outer s H vs Q E hr h=>?_)
 · obtain⟨lg,ts,ls,n,rfl,_⟩:=h
   rfl
 obtain⟨lg,ts,ls,n,rfl,RQ,hts,hl,q⟩:=h
 refine⟨_,(zC (zT (i:=3) gh.nd rfl ‹0› zF)
     (zC (xK PassesOwn.never rfl (yT (pv 0)) (yP (i:=4) gh.nd rfl ‹0›) (zC (zZ (zL (acg (agg hr)) (pY Ep (pv 4) ue (uf zF)) (yA (zA (pv 1) (zA (pv 2) zD))) (zN _)) (zE (zK (pv 3))) zP)
     (zE (zZ (zL yM (zS zX (pv 4) zF (fun _ _=>rfl)) zM (zN _)) (zE (Vw (i:=3) gh.nd rfl ‹0› zF VM)) zP))))
     (zE (zK yQ)))),?_⟩
 have lt:=zV hts
 rw [List.length_map] at lt
 refine⟨_,rfl,lg,rfl,⟨ts,bR.of RQ⟩,?_⟩
 refine yV (xs:=ts) (fun i σ G=>∃ (c:Nat) (u:Option V),σ=[some (.ref lg),some (.str ‹"ask"›),some (.str n),some (.int (c:Nat)),u]∧aA H G∧Vo n ls=(Vo n (ls.drop i)).map (· + c)) ⟨0,_,rfl,aA.refl _,by rw [List.drop_zero];cases Vo n ls <;> rfl⟩ (fun i σ G hi hw=>?_) (fun i x σ G hx hw=>?_) (fun σ G hw=>?_)
 · obtain⟨c,u,rfl,sG,_⟩:=hw
   exact bR.of (sG _ _ RQ)
 · obtain⟨c,u,rfl,sG,hc⟩:=hw
   obtain⟨e,he,a,rfl,ha⟩:=yF hts hx
   rw [List.getElem?_map] at he
   obtain⟨o,ho,rfl⟩:=Option.map_eq_some_iff.mp he
   rw [Eo ho] at hc
   have haG:=sG _ _ ha
   cases o with
   | none =>
     have haG:G a=some (.tup [.str ‹"end"›]):=haG
     have i0:iM [V.str ‹"end"›] ((0:Nat):Int)=some (.str ‹"end"›):=zR rfl
     refine⟨_,rfl,_,rfl,a,_,rfl,dH.of haG,.inl ⟨⟨rfl,rfl⟩,_,rfl,_,rfl,(by show 2≤sizeLine;decide),fun t2 Lz=>?_⟩⟩
     have s2:=zG Lz (.tup [.str ‹"ask"›,.str n])
     refine⟨_,Ad (n:=19) (dH.of (s2 _ _ haG)) (dH.of (show (upd G t2 (.tup [.str ‹"ask"›,.str n])) t2=_ from zB)) rfl rfl,_,rfl,?_⟩
     have e2:zx [V.str ‹"end"›] [V.str ‹"ask"›,V.str n]=false:=by simp [zx]
     rw [e2]
     refine aF ⟨_,rfl,a,_,_,_,rfl,rfl,dH.of (s2 _ _ haG),i0,rfl,_,rfl,mz (show ‹"end"› ≠ ‹"ask"› by symm) ⟨c,_,rfl,sG.trans s2,hc⟩⟩
   | some m =>
     have haG:G a=some (.tup [.str ‹"ask"›,.str m,.int 0]):=haG
     have i0:iM [V.str ‹"ask"›,.str m,.int 0] ((0:Nat):Int)=some (.str ‹"ask"›):=zR rfl
     refine⟨_,rfl,_,rfl,a,_,rfl,dH.of haG,.inr ⟨(by intro z;exact absurd z.2 (by show ¬ (2=3);decide)),fun t1 ht1=>?_⟩⟩
     have s1:=zG ht1 (.tup [.str ‹"ask"›,.str m])
     refine⟨_,rfl,_,rfl,(by show 2≤sizeLine;decide),fun t2 Lz=>?_⟩
     have s2:=zG Lz (.tup [.str ‹"ask"›,.str n])
     have T1:=s2 _ _ (show (upd G t1 (.tup [.str ‹"ask"›,.str m])) t1=some (.tup [.str ‹"ask"›,.str m]) from zB)
     refine⟨_,Ad (n:=19) (dH.of T1) (dH.of (show (upd (upd G t1 (.tup [.str ‹"ask"›,.str m])) t2 (.tup [.str ‹"ask"›,.str n])) t2=_ from zB)) rfl rfl,_,rfl,?_⟩
     by_cases e:m=n
     · have e2:zx [V.str ‹"ask"›,V.str m] [V.str ‹"ask"›,V.str n]=true:=by rw [e];simp [zx,JB]
       rw [e2]
       have hq:Vo n ls=some c:=by
         rw [hc];show (if m=n then some 0 else _).map (· + c)=_
         rw [if_pos e];show some (0+c)=some c;rw [Nat.zero_add]
       rw [hq] at q
       exact bA ⟨_,rfl,q _ ((sG.trans s1).trans s2)⟩
     · have e2:zx [V.str ‹"ask"›,V.str m] [V.str ‹"ask"›,V.str n]=false:=by simp [zx,JB,e]
       rw [e2]
       refine aF ⟨_,rfl,a,_,_,_,rfl,rfl,dH.of ((s1.trans s2) _ _ haG),i0,rfl,_,rfl,CW rfl ⟨_,rfl,_,_,rfl,rfl,?_⟩⟩
       refine⟨c+1,_,rfl,(sG.trans s1).trans s2,?_⟩
       rw [hc];show (if m=n then some 0 else (Vo n (ls.drop (i+1))).map (· + 1)).map (· + c)=_
       rw [if_neg e]
       cases Vo n (ls.drop (i+1)) with
       | none=>rfl
       | some k=>show some (k+1+c)=some (k+(c+1));congr 1;omega
 · obtain⟨c,u,rfl,sG,hc⟩:=hw
   have hq:Vo n ls=none:=by
     rw [hc,List.drop_of_length_le (by omega)];rfl
   rw [hq] at q
   exact q _ sG
end
def ahx:Tr→Prop
 | .leaf _=>True
 | .tup _=>True
 | .lst _=>False
theorem Yx {K:W.Frag}{H:Hp}{m:Addr}{o u:HO} (hm:H m=some u) (hu:∀ t,u≠.tup t) {x:V}{t:Tr} (ht:ahx t) (h:mH K H 1 x t):mH K (upd H m o) 1 x t:=by
 cases t with
 | leaf v=>exact h
 | lst l=>exact ht.elim
 | tup l =>
   obtain⟨a,xs,e1,e2,e3,e4⟩:=h
   refine⟨a,xs,e1,?_,e3,zH e4 fun a b z=>?_⟩
   · rcases e2 with e2 | e2
     · exact .inl (by rw [zI (yN e2 hm fun z=>hu _ z.symm)];exact e2)
     · exact .inr e2
   · cases b with
     | leaf _=>exact z
     | lst _=>exact z.elim
     | tup _=>exact z.elim
def Yy (N:Nm) (x:Kn) (s:jf):Tr:=.tup [.leaf (.str (N 0)),.leaf (.str ‹""›),smp x s.1]
def ahy (A:cM) (K:W.Frag):Sp:=fun vs H Q _=>∃ (N:Nm) (pa:Addr) (x:Kn) (y:Sy) (s:jf) (nn:List Str) (rl:Addr) (us:List V) (kn:Addr),vs=[.ref pa,.ref rl,.ref kn]∧PQ A N H pa (SS N x y)∧N 0≠N 1∧Ly x y.1∧TF x∧x.lo≤s.1∧s.1≤x.hi∧(nn=[]∨nn=[N 0])∧H rl=some (.lst us)∧Paired (jB H) us (nn.map (Pn (pW N s)))∧H kn=some (.dT []) ∧
 ∀ p zs H',aA H H'→H p=none→H' p=some (.lst zs)→Paired (mH K H' 2) zs (nn.map fun _=>Yy N x s)→Q (.ref p) H'
section
variable {P:Program}{w:World}{K:W.Frag}{mg:Str→Option Value}{base:Heap}{A:cM}
theorem Vd (T:Txt K mg A):aG P w K mg base bQ 5 A.xq A.FZ ["paper","ranges","known"] (ahy A K):=by
 have oH:=tW (P:=P) (w:=w) (base:=base) T
 have tZ:=zm (P:=P) (w:=w) (base:=base) T
 refine T.W2.ok fY (fun vs H Q E h=>?_) (fun cdv A0 outer s H vs Q E hr h=>?_)
 · obtain⟨N,pa,x,y,s,nn,rl,us,kn,rfl,_⟩:=h
   rfl
 obtain⟨N,pa,x,y,s,nn,rl,us,kn,rfl,hP,hN,hAt,hx,h0,h1,hnn,hrl,hus,hkn,q⟩:=h
 refine⟨_,(zC (zT (i:=3) fY.nd rfl ‹0› (zU oH ‹hr› rfl T.vX T.vW T.vV .nil zQ (zA (pv 0) zD)))
     (zC (zT (i:=4) fY.nd rfl ‹0› (zU tZ ‹hr› rfl T.Cu T.Cr T.Cq .nil zQ (zA (pv 0) zD)))
     (zC (zT (i:=5) fY.nd rfl ‹0› p7)
     (zC (zT (i:=6) fY.nd rfl ‹0› (yJ zD))
     (zC (xK PassesOwn.never rfl (yT (pv 1)) (Kc rfl (xN (yP (i:=7) fY.nd rfl ‹0›) (xN (yP (i:=8) fY.nd rfl ‹0›) (xN (yP (i:=9) fY.nd rfl ‹0›) (xN (yP (i:=10) fY.nd rfl ‹0›) Ek))))) (zC (zT (i:=11) fY.nd rfl ‹0› (oN (xG hr) (pv 4) (pv 7) (fun _ _=>rfl)))
     (zC (ug (xG hr) (pv 5) (pv 7) (Fg (xG hr) (pv 2) (yA (zA (pv 7) (zA (pv 8) zD))) (yD (CX:=bQ) (k:=4) ‹hr› zQ (oN (xG hr) (pv 3) (pv 7) (fun _ _=>rfl)) (zA (pv 9) zD)) ⟨rfl,rfl,rfl,rfl⟩) rfl)
     (zE (yG (mC PySem.F.plainAttrs_list PySem.F.slot_list_append PySem.F.type_list_append yU (pv 6) (zA (yA (zA (pv 7) (zA (lB (zL xS (pv 11) yQ (zN _)) zM (zS (bj.or zX) (oN (xG hr) (pv 5) (pv 11) (fun _ _=>rfl)) (pv 8) (fun _ _=>rfl))) (zA (oN (xG hr) (pv 5) (pv 7) (fun _ _=>rfl)) zD)))) zD)))))))
     (zE (zK (pv 6)))))))),?_⟩
 have hGS:=abB hN hAt
 refine⟨_,rfl,N,pa,SS N x y,rfl,hP,hGS,fun kd kvs H1 fk s1 hk hK=>?_⟩
 dsimp only [bU,List.set_cons_succ,List.set_cons_zero]
 refine⟨_,rfl,N,pa,SS N x y,rfl,hP.kq (.of s1),hGS,fun ed kv2 H2 fe s2 he hE=>?_⟩
 dsimp only [bU,List.set_cons_succ,List.set_cons_zero]
 intro d hd
 have s3:=zG hd (.dK [])
 refine⟨(by show 0≤sizeLine;decide),fun Df hrw=>?_⟩
 have s4:=zG hrw (.lst [])
 have D4:=s4 _ _ (show (upd H2 d (.dK [])) d=some (.dK []) from zB)
 have R4:(upd (upd H2 d (.dK [])) Df (.lst [])) Df=some (.lst []):=zB
 have S24:=s3.trans s4
 have nR:=yE ((s1.trans s2).trans s3) hrw
 have nD:=yE (s1.trans s2) hd
 dsimp only [bU,List.set_cons_succ,List.set_cons_zero]
 generalize upd (upd H2 d (HO.dK [])) Df (HO.lst [])=H4 at S24 D4 R4 ⊢
 have S4:=(s1.trans s2).trans S24
 have lus:=zV hus
 rw [List.length_map] at lus
 have ndr:d≠Df:=yN D4 R4 (by intro z;cases z)
 refine⟨_,rfl,rl,rfl,⟨us,bR.of (S4 _ _ hrl)⟩,?_⟩
 refine yV (xs:=us) (fun i σ G=>(i=0∧σ=[some (.ref pa),some (.ref rl),some (.ref kn),some (.ref kd),some (.ref ed),some (.ref d),some (.ref Df),none,none,none,none,none]∧H4=G)∨(i=1∧∃ zs u7 u8 u9 Y7 Y8,σ=[some (.ref pa),some (.ref rl),some (.ref kn),some (.ref kd),some (.ref ed),some (.ref d),some (.ref Df),u7,u8,u9,Y7,Y8]∧aA H G∧G Df=some (.lst zs)∧Paired (mH K G 2) zs [Yy N x s])) (.inl ⟨rfl,rfl,rfl⟩) (fun i σ G hi hw=>?_) (fun i e σ G hx' hw=>?_) (fun σ G hw=>?_)
 · rcases hw with ⟨_,_,rfl⟩ | ⟨_,zs,u7,u8,u9,Y7,Y8,_,sG,_⟩
   · exact bR.of (S4 _ _ hrl)
   · exact bR.of (sG _ _ hrl)
 · have hlen:us.length≤1:=by rw [lus];rcases hnn with rfl | rfl <;> simp
   have hi:=(List.getElem?_eq_some_iff.mp hx').1
   rcases hw with ⟨rfl,rfl,rfl⟩ | ⟨rfl,_⟩
   · have hn1:nn=[N 0]:=by
       rcases hnn with rfl | h
       · exact absurd hi (by rw [lus];decide)
       · exact h
     subst hn1
     obtain⟨e',he',ta,rfl,Vn⟩:=yF hus hx'
     cases he'
     have Vn:H ta=some (.tup [.str (N 0),.int 0,.int s.1,.int s.2]):=by
       unfold Pn at Vn;rw [CZ] at Vn;exact Vn
     refine⟨ta,_,rfl,dH.of (S4 _ _ Vn),rfl,_,_,rfl,_,_,rfl,_,_,rfl,_,_,rfl,rfl,?_⟩
     dsimp only [bU,List.set_cons_succ,List.set_cons_zero]
     have hed:gr H4 ed (.str (N 0)) (some .non):=by
       have:=gr.k (k:=.inr (N 0)) (S24 _ _ he)
       rw [hE _ Ys] at this
       exact this
     refine⟨_,rfl,_,rfl,ed,_,rfl,hed,?_⟩
     dsimp only [bU,List.set_cons_succ,List.set_cons_zero]
     obtain⟨kp,k3,k4⟩:=hK _ (Ys (N:=N) (x:=x) (y:=y))
     have k3:eF kvs (.inr (N 0))=some (.ref kp):=k3
     have k4:PN A H kp x:=k4.kq (.of (aA.refl _))
     refine⟨_,rfl,kn,rfl,.inr ⟨[],.inl (S4 _ _ hkn)⟩,_,rfl,_,rfl,(by show 2≤sizeLine;decide),fun kt hkt=>?_⟩
     have s5:=zG hkt (.tup [.str (N 0),.int 0])
     have S5:=S4.trans s5
     have hkd:gr (upd H4 kt (.tup [.str (N 0),.int 0])) kd (.str (N 0)) (some (.ref kp)):=by
       have:=gr.k (k:=.inr (N 0)) (((s2.trans S24).trans s5) _ _ hk)
       rw [k3] at this
       exact this
     have k5:=k4.kq (.of S5)
     obtain⟨C,dx,fs,M,m1,m2,m3,m4⟩:=mSm (P:=P) (w:=w) (base:=base) T k5
     refine⟨_,rfl,_,rfl,kd,_,rfl,hkd,kp,C,dx,fs,M,rfl,m1,m2,_,rfl,?_⟩
     rw [m3,m4]
     refine⟨kp,x,s.1,rfl,k5,hx,h0,h1,rfl,fun v H6 s6 hv=>?_⟩
     refine⟨_,gr.t (k:=keyOf (N 0)) (s6 _ _ (S5 _ _ hkn)) (s6 _ _ zB),?_⟩
     rw [show (eF ([]:List (List Key × V)) (keyOf (N 0))).getD v=v from rfl]
     have S6':=s5.trans s6
     have D6:=S6' _ _ D4
     refine⟨_,rfl,_,rfl,d,_,rfl,Dh.k (k:=.inr (N 0)) D6 (by show 0<sizeLine;decide),?_⟩
     have R7:(upd H6 d (.dK (putK [] (.inr (N 0)) v))) Df=some (.lst []):=by rw [zI (Ne.symm ndr)];exact S6' _ _ R4
     have D7:(upd H6 d (.dK (putK [] (.inr (N 0)) v))) d=some (.dK (putK [] (.inr (N 0)) v)):=zB
     have S7:aA H (upd H6 d (.dK (putK [] (.inr (N 0)) v))):=qt (S5.trans s6) nD _
     have hv7:mH K (upd H6 d (.dK (putK [] (.inr (N 0)) v))) 1 v (smp x s.1):=Yx D6 (fun _ z=>by cases z) (by cases x <;> exact True.intro) hv
     generalize upd H6 d (HO.dK (putK [] (.inr (N 0)) v))=H7 at R7 D7 S7 hv7 ⊢
     have hg:gr H7 d (.str (N 0)) (some v):=by
       have:=gr.k (k:=.inr (N 0)) D7
       rw [lD,if_pos rfl] at this
       exact this
     refine⟨_,rfl,.inl ⟨rfl,_,bR.of R7⟩,_,rfl,_,rfl,rfl,_,rfl,bA ⟨_,rfl,_,rfl,d,_,rfl,hg,(by show 3≤sizeLine;decide),fun tp htp=>?_⟩⟩
     have s8:=zG htp (.tup [.str (N 0),.str ‹""›,v])
     refine⟨Df,_,_,rfl,rfl,s8 _ _ R7,(by show 0<sizeLine;decide),.inr ⟨rfl,_,_,_,_,_,_,rfl,qt (S7.trans s8) nR _,zB,?_⟩⟩
     have TP:(upd H7 tp (.tup [.str (N 0),.str ‹""›,v])) tp=some (.tup [.str (N 0),.str ‹""›,v]):=zB
     refine .cons ⟨tp,_,rfl,.inl (by rw [zI (yN TP (s8 _ _ R7) (by intro z;cases z))];exact TP),(by show 3≤1000;decide),.cons ⟨rfl,trivial⟩ (.cons ⟨rfl,trivial⟩ (.cons (Yx (s8 _ _ R7) (fun _ z=>by cases z) (by cases x <;> exact True.intro) (mH.same s8 hv7)) .nil))⟩ .nil
   · omega
 · rcases hw with ⟨hz,rfl,rfl⟩ | ⟨hz,zs,u7,u8,u9,Y7,Y8,rfl,sG,hR,hp⟩
   · have:nn=[]:=by
       rcases hnn with h | rfl
       · exact h
       · rw [hz] at lus;simp at lus
     subst this
     exact⟨_,rfl,q Df [] _ S4 nR R4 .nil⟩
   · have:nn=[N 0]:=by
       rcases hnn with rfl | h
       · rw [hz] at lus;simp at lus
       · exact h
     subst this
     exact⟨_,rfl,q Df zs _ sG nR hR hp⟩
end
def TV (s:Stmt):Expr:=match aj s with
 | [.Return (some (.Call _ [_,_,_,e] _ _)) _]=>e
 | _=>.Name "" ⟨0,0,0,0⟩
def DM:jk:={ qual:=‹"come_to"› ++ ".<locals>." ++ "<lambda>",params:=agA (TV cW),body:=agB (TV cW),scope:=agC (TV cW),x:="leaf",ys:=["question"],gs:=["asked_ahead_of"] }
abbrev Ve:Pos:=lamP (TV cW)
theorem TX:DM.Ok:=⟨rfl,rfl,rfl,rfl,by symm,fun _ _ _ _ _=>rfl⟩
def auF (K:W.Frag):TE:=VN ahw [] E0 (Jv (PK (afZ K) (mJ 0) (tC (.int 2))) (Jv (tC (.str ‹"ask"›)) (Jv (mJ 1) Qh)))
theorem Vf {P:Program}{w:World}{K:W.Frag}{mg:Str→Option Value}{base:Heap}{A':cM} (T:Txt K mg A') {p:Addr}{cs:List (Str × Addr)}{cd:Value}{A:Around}{outer:List Env}{s:Shared}{H:Hp}{E:XK} (hr:fD 4 (A.deeper (W.envX DM.qual DM.scope s.heap.objs.size p cd cs))) :
   PE (Cm bQ P w K mg base DM p cs cd A outer s H E) DM.body (auF K):=by
 show PE _ (.Call (.Name "asked_ahead_of" _) [.Subscript (.Name "leaf" _) (.Constant (.int 2) _ _) _,.Constant (.str ‹"ask"›) _ _,.Name "question" _] [] _) _
 exact zU (Yw T) (hr.mono (by decide)) rfl T.Bl T.Bk T.Bj .nil zQ (zA (zS zX (pv 0) zF (fun _ _=>rfl)) (zA zM (zA (pv 1) zD)))
def uW (out:List Nd):List jf:=out.filterMap fun d=>match d with
 | .lf s=>some s
 | .sp _ _=>none
def Ei (c:jf→Option Nat):List jf→Option (jf × Nat)
 | []=>none
 | s::r=>match c s with
   | some k=>some (s,k)
   | none=>Ei c r
theorem HR {c:jf→Option Nat}:∀ {l:List jf},(∀ s∈l,c s=none)→Ei c l=none
 | [],_=>rfl
 | s::r,h=>by
   show (match c s with | some k=>some (s,k) | none=>Ei c r)=none
   rw [h s List.mem_cons_self]
   exact HR fun t ht=>h t (List.mem_cons_of_mem _ ht)
theorem Mv {c:jf→Option Nat}:∀ {l:List jf}{i:Nat}{s:jf}{k:Nat},(∀ t∈l.take i,c t=none)→l[i]? = some s→c s=some k→Ei c l=some (s,k)
 | [],_,_,_,_,h,_=>by simp at h
 | s::r,0,_,k,_,h,e=>by
   cases h
   show (match c s with | some k=>some (s,k) | none=>Ei c r)=_
   rw [e]
 | s::r,i+1,s',k,h0,h,e=>by
   show (match c s with | some k=>some (s,k) | none=>Ei c r)=_
   rw [h0 s (by rw [List.take_succ_cons];exact List.mem_cons_self)]
   exact Mv (i:=i) (fun t ht=>h0 t (by rw [List.take_succ_cons];exact List.mem_cons_of_mem _ ht)) h e
def mX (N:Nm) (y:Sy) (n:Str) (s:jf):Option Nat:=Vo n (TQ N (oK y s) y.2)
def nnk (N:Nm) (k:Nat):List Str:=if k=0 then [] else [N 0]
def zu (y:Sy) (l:List jf):Str:=if (l.all fun s=>!decide (oK y s=none))=true then ‹"shut"› else ‹"unknown"›
def Yz (y:Sy) (c:jf→Option Nat) (out:List Nd):Str:=match Ei c (uW out) with
 | some _=>‹"row"›
 | none=>zu y (uW out)
def tbL (N:Nm) (x:Kn) (y:Sy) (c:jf→Option Nat) (out:List Nd):List Tr:=match Ei c (uW out) with
 | some (s,k)=>(nnk N k).map fun _=>Yy N x s
 | none=>out.map (PX N y.1 y.2)
theorem abC {N:Nm}{y:Sy}{s:jf}:mX N y (N 0) s=some 0:=by
 unfold mX TQ
 show (if N 0=N 0 then some 0 else _)=_
 rw [if_pos rfl]
theorem YB {N:Nm}{y:Sy}{s:jf} (h:N 0≠N 1):mX N y (N 1) s=if oK y s=some (!y.2) then some 1 else none:=by
 unfold mX TQ
 by_cases c:oK y s=some (!y.2)
 · rw [if_pos c,if_pos c]
   show (if N 0=N 1 then some 0 else (if N 1=N 1 then some 0 else _).map (· + 1))=_
   rw [if_neg h,if_pos rfl];rfl
 · rw [if_neg c,if_neg c]
   by_cases c2:oK y s=none
   · rw [if_pos c2];show (if N 0=N 1 then some 0 else none)=_;rw [if_neg h]
   · rw [if_neg c2];show (if N 0=N 1 then some 0 else none)=_;rw [if_neg h]
theorem adx {N:Nm}{y:Sy}{n:Str}{s:jf}{k:Nat} (h:N 0≠N 1) (hn:n=N 0∨n=N 1) (e:mX N y n s=some k):k≤1:=by
 rcases hn with rfl | rfl
 · rw [abC] at e;cases e;decide
 · rw [YB h] at e
   split at e
   · cases e;decide
   · cases e
theorem YC {F:Addr→Prop}{H:Hp}{n:Nat}:∀ {ts:List V}{L:List (List V)},Paired (fG F H (n+1)) ts (L.map tpT)→Paired (jB H) ts L
 | _,[],h=>by cases h;exact .nil
 | _,e::L,h=>by
   cases h with
   | cons h1 h2 =>
     obtain⟨a,xs,rfl,ha,_,hp⟩:=h1
     have:xs=e:=by
       have aux:∀ {xs e:List V},Paired (fG F H n) xs (e.map Tr.leaf)→xs=e:=by
         intro xs e
         induction e generalizing xs with
         | nil=>intro h;cases h;rfl
         | cons v e ih =>
           intro h
           cases h with
           | cons r t =>
             have:∀ {m:Nat}{x:V},fG F H m x (.leaf v)→x=v:=fun {m x} z=>by cases m <;> exact z.1
             rw [this r,ih t]
       exact aux hp
     subst this
     exact .cons ⟨a,rfl,ha⟩ (YC h2)
theorem Eu {F:Addr→Prop}{H:Hp}{N:Nm}{kn:Option Bool}{dn:Bool}{s:jf}{x:V} (h:fG F H 3 x (HF N kn dn s)):∃ a lg rg db ts us,x=.ref a∧H a=some (.tup [.str ‹"leaf"›,.bl (!decide (kn=none)),.ref lg,.ref rg,.ref db])∧H lg=some (.lst ts)∧Paired (jB H) ts (rR N kn dn)∧H rg=some (.lst us)∧Paired (jB H) us (wL N kn dn s):=by
 obtain⟨a,xs,rfl,ha,_,hp⟩:=h
 cases hp with
 | cons p1 hp=>cases hp with
   | cons p2 hp=>cases hp with
     | cons p3 hp=>cases hp with
       | cons p4 hp=>cases hp with
         | cons p5 hp =>
           cases hp
           obtain⟨rfl,_⟩:=p1
           obtain⟨rfl,_⟩:=p2
           obtain⟨lg,ts,rfl,l1,_,l3,_⟩:=p3
           obtain⟨rg,us,rfl,r1,_,r3,_⟩:=p4
           obtain⟨db,ds,rfl,_⟩:=p5
           exact⟨a,lg,rg,db,ts,us,rfl,ha,l1,YC l3,r1,YC r3⟩
def LkM (H:Hp) (p:Addr) (n:Str):Prop:=∃ cs,Ck DM H p cs [.str n]
theorem LkM.same {H H':Hp} (s:aA H H') {p:Addr}{n:Str} (h:LkM H p n):LkM H' p n:=by
 obtain⟨cs,L⟩:=h
 exact⟨cs,Tw s L⟩
def TbR (K:W.Frag) (N:Nm) (x:Kn) (y:Sy) (c:jf→Option Nat) (out:List Nd) (np:Addr) (H H':Hp) (v:V):Prop:=∃ p l,v=.ref p∧H' p=some (.tup [.str (Yz y c out),.ref l])∧match Ei c (uW out) with
 | some (s,k)=>H l=none∧∃ zs,H' l=some (.lst zs)∧Paired (mH K H' 2) zs ((nnk N k).map fun _=>Yy N x s)
 | none=>l=np
def auG (A:cM) (K:W.Frag):Sp:=fun vs H Q _=>∃ (N:Nm) (pa:Addr) (x:Kn) (y:Sy) (out:List Nd) (np:Addr) (nx:List V) (kn lp:Addr) (n:Str) (F:Addr→Prop),vs=[.ref pa,.ref np,.ref kn,.ref lp]∧PQ A N H pa (SS N x y)∧N 0≠N 1∧Ly x y.1∧TF x∧(∀ s,Nd.lf s∈out→x.lo≤s.1∧s.1≤s.2∧s.2≤x.hi)∧H np=some (.lst nx)∧nx.length≤1000∧Paired (fG F H 3) nx (out.map (PX N y.1 y.2))∧H kn=some (.dT [])∧LkM H lp n∧(n=N 0∨n=N 1) ∧
 ∀ v H',aA H H'→TbR K N x y (mX N y n) out np H H' v→Q v H'
theorem aaR {out:List Nd}{s:jf} (h:s∈uW out):Nd.lf s∈out:=by
 obtain⟨d,hd,e⟩:=List.mem_filterMap.mp h
 cases d with
 | sp _ _=>cases e
 | lf t=>cases e;exact hd
theorem Pz {out:List Nd}{i:Nat}{d:Nd} (h:out[i]? = some d):uW (out.take (i+1))=uW (out.take i)++uW [d]:=by
 rw [take_snoc h];unfold uW;rw [List.filterMap_append]
theorem aaS {H:Hp}{N:Nm}{kn:Option Bool}{dn:Bool}{s:jf}{us:List V}{k:Nat} (hN:N 0≠N 1) (hk:k≤1) (h:Paired (jB H) us (wL N kn dn s)):Paired (jB H) (pG us none (some (k:Int))) ((nnk N k).map (Pn (pW N s))):=by
 unfold pG
 rw [HT.Fd,HT.Kh,List.drop_zero,Nat.sub_zero]
 have e0:Pn (pW N s) (N 0)=[.str (N 0),.int 0,.int s.1,.int s.2]:=by unfold Pn;rw [CZ]
 unfold wL at h
 cases h with
 | @cons a b as bs r t =>
   have hk:k=0∨k=1:=by omega
   rcases hk with rfl | rfl
   · rw [Nat.zero_min,List.take_zero];exact .nil
   · rw [Nat.min_eq_left (by show 1≤as.length+1;omega)]
     refine .cons ?_ .nil
     rw [e0];exact r
theorem ady (N:Nm) (kn:Option Bool) (dn:Bool):(TQ N kn dn).length≤100:=by
 have:=(Mj N kn dn).1
 rw [Ms,List.length_map] at this
 omega
section
variable {P:Program}{w:World}{K:W.Frag}{mg:Str→Option Value}{base:Heap}{A:cM}
theorem R9 (T:Txt K mg A):aG P w K mg base bQ 7 A.ur A.Ai ["paper","nodes","known","asked_ahead"] (auG A K):=by
 have YD:=Vd (P:=P) (w:=w) (base:=base) T
 refine T.Ux.ok rn (fun vs H Q E h=>?_) (fun cdv A0 outer s H vs Q E hr h=>?_)
 · obtain⟨N,pa,x,y,out,np,nx,kn,lp,n,F,rfl,_⟩:=h
   rfl
 obtain⟨N,pa,x,y,out,np,nx,kn,lp,n,F,rfl,hP,hN,hAt,hx,hbd,hnp,hnl,hnx,hkn,hlp,hn,q⟩:=h
 refine⟨_,(zC (NQ (i:=4) rn.nd rfl ‹0› (xR (x:="node") (M:=["paper","nodes","known","asked_ahead","leaves","leaf","count"]) rfl (by rfl)) rfl (yT (pv 1)) (fun _ _ _ _=>NP (by exact (Nu (zL yM (zS zX (pv 0) zF (fun _ _=>rfl)) zM (zN _)))) (by dsimp only [dM] <;> rfl)) (fun _ _ _ _=>Af (by exact (pv 0)) (by dsimp only [dM] <;> rfl)))
     (zC (xK PassesOwn.never rfl (yT (pv 4)) (yP (i:=5) rn.nd rfl ‹0›) (zC (zT (i:=6) rn.nd rfl ‹0› (FJ (k:=4) TX (fun _ _ _ _ _ _ _ _ hr=>Vf T hr) ‹hr› zQ (pv 3) (zA (pv 5) zD)))
     (zE (zZ (zL wO (pv 6) yQ (zN _)) (zE (zK (yA (zA zM (zA (zU YD ‹hr› rfl T.W8 T.W4 T.W3 .nil zQ (zA (pv 0) (zA (pY S8 (zS zX (pv 5) zF (fun _ _=>rfl)) ue (uf (pv 6))) (zA (pv 2) zD)))) zD))))) zP))))
     (zE (zK (yA (zA (lB (yO (zW (Ni rfl) (by rfl) T.abl Bt.all (zA (Nk (xR (x:="leaf") (M:=["paper","nodes","known","asked_ahead","leaves","","count"]) rfl (by rfl)) rfl (yT (pv 4)) (fun _ _ _ _=>Af (by exact (zS zX (pv 0) zF (fun _ _=>rfl))) (by dsimp only [dM] <;> rfl))) zD))) zM zM) (zA (pv 1) zD))))))),?_⟩
 have ln:=zV hnx
 rw [List.length_map] at ln
 refine⟨_,rfl,np,rfl,⟨nx,bR.of hnp⟩,?_⟩
 refine FQ (xs:=nx) (yK (m:=1000) (by omega)) (fun i zs G=>H=G∧Paired (fG F H 3) zs ((uW (out.take i)).map fun s=>HF N (oK y s) y.2 s)) ⟨rfl,.nil⟩ (fun i zs G hw=>by obtain⟨rfl,_⟩:=hw;exact bR.of hnp) (fun i e zs G hx' _ hw=>?_) (fun zs G hw ll hll=>?_)
 · obtain⟨rfl,hp⟩:=hw
   obtain⟨t,ht,htr⟩:=yF hnx hx'
   rw [List.getElem?_map] at ht
   obtain⟨dd,hdd,rfl⟩:=Option.map_eq_some_iff.mp ht
   rw [Pz hdd,List.map_append]
   cases dd with
   | sp c m =>
     obtain⟨a,xs,rfl,ha,_,hpp⟩:=htr
     obtain⟨rest,rfl⟩:∃ rest,xs=.str ‹"split"›::rest:=by
       cases hpp with
       | cons p1 _=>exact⟨_,by rw [p1.1]⟩
     refine⟨_,rfl,a,_,_,_,rfl,rfl,dH.of ha,zR (j:=0) rfl,rfl,_,rfl,mz (show ‹"split"› ≠ ‹"leaf"› by symm) ⟨rfl,?_⟩⟩
     show Paired _ _ (_++[])
     rw [List.append_nil];exact hp
   | lf s =>
     obtain⟨a,lg,rg,db,ts,us,rfl,ha,_⟩:=Eu htr
     refine⟨_,rfl,a,_,_,_,rfl,rfl,dH.of ha,zR (j:=0) rfl,rfl,_,rfl,CW rfl ⟨_,rfl,rfl,xH hp (.cons htr .nil)⟩⟩
 obtain⟨rfl,hp⟩:=hw
 rw [ln,List.take_length] at hp
 have s1:=zG hll (.lst zs)
 have hLL:(upd H ll (.lst zs)) ll=some (.lst zs):=zB
 dsimp only [bU,List.set_cons_succ,List.set_cons_zero]
 generalize upd H ll (HO.lst zs)=H1 at s1 hLL ⊢
 have hp1:Paired (fG F H1 3) zs ((uW out).map fun s=>HF N (oK y s) y.2 s):=zH hp fun _ _ z=>fG.same s1 z
 have lz:=zV hp1
 rw [List.length_map] at lz
 have lzz:zs.length≤1000:=by
   rw [lz];refine Nat.le_trans (List.length_filterMap_le _ _) ?_;omega
 refine⟨_,rfl,ll,rfl,⟨zs,bR.of hLL⟩,?_⟩
 refine yV (xs:=zs) (fun i σ G=>∃ u5 u6,σ=[some (.ref pa),some (.ref np),some (.ref kn),some (.ref lp),some (.ref ll),u5,u6]∧aA H1 G∧∀ s∈(uW out).take i,mX N y n s=none) ⟨_,_,rfl,aA.refl _,fun _ h=>by cases h⟩ (fun i σ G hi hw=>?_) (fun i e σ G hx' hw=>?_) (fun σ G hw=>?_)
 · obtain⟨u5,u6,rfl,sG,_⟩:=hw
   exact bR.of (sG _ _ hLL)
 · obtain⟨u5,u6,rfl,sG,hno⟩:=hw
   obtain⟨t,ht,htr⟩:=yF hp1 hx'
   rw [List.getElem?_map] at ht
   obtain⟨s,hs,rfl⟩:=Option.map_eq_some_iff.mp ht
   have hsb:=hbd s (aaR (List.mem_of_getElem? hs))
   obtain⟨a,lg,rg,db,ts,us,rfl,ha,RQ,hts,hrg,hus⟩:=Eu (fG.same sG htr)
   rw [Ms] at hts
   have S1:=s1.trans sG
   obtain⟨cs,L⟩:=hlp.same S1
   have kd:=XD L
   have i2:iM [V.str ‹"leaf"›,.bl (!decide (oK y s=none)),.ref lg,.ref rg,.ref db] ((2:Nat):Int)=some (.ref lg):=zR rfl
   have i3:iM [V.str ‹"leaf"›,.bl (!decide (oK y s=none)),.ref lg,.ref rg,.ref db] ((3:Nat):Int)=some (.ref rg):=zR rfl
   refine⟨_,rfl,lp,rfl,_,rfl,.ref a,cs,[.str n],rfl,L,?_⟩
   refine⟨_,rfl,a,_,_,_,rfl,rfl,dH.of (kd _ _ ha trivial),i2,_,rfl,lg,ts,TQ N (oK y s) y.2,n,rfl,kd _ _ RQ trivial,zH hts fun _ _=>jB.kq kd,ady _ _ _,fun H' s'=>?_⟩
   have s2:=aA.back s'
   have S2:=S1.trans s2
   dsimp only [bU,List.set_cons_succ,List.set_cons_zero]
   cases hc:Vo n (TQ N (oK y s) y.2) with
   | none =>
     refine⟨_,rfl,rfl,_,rfl,aF ⟨_,_,rfl,sG.trans s2,fun t ht=>?_⟩⟩
     rw [take_snoc hs] at ht
     rcases List.mem_append.mp ht with ht | ht
     · exact hno t ht
     · rw [List.mem_singleton.mp ht];exact hc
   | some k =>
     have hck:mX N y n s=some k:=hc
     have hk1:=adx hN hn hck
     have hit:=Mv hno hs hck
     refine⟨_,rfl,rfl,_,rfl,bA ⟨_,rfl,_,rfl,a,_,_,_,rfl,rfl,dH.of (s2 _ _ ha),i3,_,rfl,_,rfl,rg,us,rfl,bR.of (s2 _ _ hrg),fun sl hsl=>?_⟩⟩
     have s3:=zG hsl (.lst (pG us none (some ((k:Nat):Int))))
     have S3:=S2.trans s3
     refine⟨_,rfl,N,pa,x,y,s,nnk N k,sl,_,kn,rfl,hP.kq (.of S3),hN,hAt,hx,hsb.1,Int.le_trans hsb.2.1 hsb.2.2,?_,zB,aaS hN hk1 (zH hus fun _ _=>jB.kq (.of (s2.trans s3))),S3 _ _ hkn,fun p ws H4 s4 np4 hp4 hw4=>?_⟩
     · unfold nnk
       by_cases e:k=0
       · exact .inl (if_pos e)
       · exact .inr (if_neg e)
     refine⟨(by show 2≤sizeLine;decide),fun tp htp=>?_⟩
     have s5:=zG htp (.tup [.str ‹"row"›,.ref p])
     refine q (.ref tp) _ ((S3.trans s4).trans s5) ⟨tp,p,rfl,?_,?_⟩
     · unfold Yz;rw [hit];exact zB
     · rw [hit]
       exact⟨yE S3 np4,ws,s5 _ _ hp4,zH hw4 fun _ _ z=>mH.same s5 z⟩
 · obtain⟨u5,u6,rfl,sG,hno⟩:=hw
   rw [lz,List.take_length] at hno
   have hit:=HR hno
   have S1:=s1.trans sG
   refine⟨_,rfl,ll,rfl,⟨zs,bR.of (sG _ _ hLL)⟩,?_⟩
   refine Qn (xs:=zs) (yK (m:=1000) lzz) (fun i us G2=>G=G2∧us=(((uW out).take i).map fun s=>!decide (oK y s=none)).map V.bl) ⟨rfl,rfl⟩ (fun i us G2 hw=>by obtain⟨rfl,_⟩:=hw;exact bR.of (sG _ _ hLL)) (fun i e us G2 hx' hlen' hw=>?_) (fun us G2 hl2 hw bl YX=>?_)
   · obtain⟨rfl,rfl⟩:=hw
     obtain⟨t,ht,htr⟩:=yF hp1 hx'
     rw [List.getElem?_map] at ht
     obtain⟨s,hs,rfl⟩:=Option.map_eq_some_iff.mp ht
     obtain⟨a,lg,rg,db,ts,us,rfl,ha,_⟩:=Eu (fG.same sG htr)
     refine⟨_,rfl,a,_,_,_,rfl,rfl,dH.of ha,zR (j:=1) rfl,rfl,?_⟩
     rw [take_snoc hs,List.map_append,List.map_append];rfl
   obtain⟨rfl,rfl⟩:=hw
   rw [lz,List.take_length]
   have s2:=zG YX (.lst (((uW out).map fun s=>!decide (oK y s=none)).map V.bl))
   have fin:∀ wd,wd=zu y (uW out)→∀ tp,(upd G bl (.lst (((uW out).map fun s=>!decide (oK y s=none)).map V.bl))) tp=none→Q (.ref tp) (upd (upd G bl (.lst (((uW out).map fun s=>!decide (oK y s=none)).map V.bl))) tp (.tup [.str wd,.ref np])):=fun wd e tp htp=>by
     refine q _ _ ((S1.trans s2).trans (zG htp _)) ⟨tp,np,rfl,?_,?_⟩
     · unfold Yz;rw [hit,e];exact zB
     · rw [hit]
   refine⟨bl,_,rfl,bR.of zB,_,rfl,lC (fun d=>?_) (fun d=>?_)⟩
   · refine⟨_,rfl,(by show 2≤sizeLine;decide),fun tp htp=>fin _ ?_ tp htp⟩
     unfold zu
     rw [if_pos (by rw [← d,List.all_map];rfl)]
   · refine⟨_,rfl,(by show 2≤sizeLine;decide),fun tp htp=>fin _ ?_ tp htp⟩
     unfold zu
     rw [if_neg (fun z=>d (by rw [← z,List.all_map];rfl))]
end
end iy
set_option maxHeartbeats 4000000
namespace L2
open PySem PySem.Spec PyProof.Rows PySem.Calls
section
variable {P:Program}{w:World}{K:W.Frag}{mg:Str→Option Value}{base:Heap}
theorem Dj.okC {x qual:Str}{st:Stmt}{f:Addr}{fd:FuncData}{N ps:List Str}{k:Nat}{sp:Sp}{ds:List Value} (F:Dj K x qual st ds f fd) (S:au N ps (aa st)) (len:∀ vs H Q E,sp vs H Q E→vs.length=ps.length)
   (hbody:∀ (cdv:Value) (A:Around) (outer:List Env) (s:Shared) (H:Hp) (vs:List V) (Q:VK) (E:XK),fd.code=cdv→fD k (A.deeper (envOfC qual (aa st) s.heap.objs.size f cdv))→sp vs H Q E →
     ∃ t,m6 (Kg bQ P w K mg base N qual (aa st) f cdv A outer s H E).Ej (aj st) t∧t { nx:=fun _ H'=>Q .non H',rt:=Q } (start N vs) H):aG P w K mg base bQ (k+1) f fd ps sp:=by
 obtain⟨T,oc,od,kV,doc,pm,an,cdv,ct,osl,to,n,rfl,lk,hcd,_⟩:=F.ex
 refine SN lk hcd S len fun A outer s H vs Q E hr hsp=>?_
 obtain⟨t,h,q⟩:=hbody cdv A outer s H vs Q E rfl hr hsp
 exact⟨t,h.Ej,q⟩
end
end L2
namespace iy
open PySem L2
seal PE PT PW PA PS m6 PG uC PI PO ji iw wN cg jj rN rM PC wW
local macro_rules | `(tactic| walk_at "rd1") => `(tactic| first
 | (refine And.intro rfl ?_)
 | (refine And.intro (by assumption) ?_)
 | (refine And.intro (fun _ e=>e) ?_)
 | (refine And.intro (aB.str _) ?_) | (refine And.intro (aB.int _) ?_) | (refine And.intro (aB.bl _) ?_) | (refine And.intro aB.non ?_)
 | (refine bA ?_) | (refine aF ?_)
 | (apply Exists.intro))
local macro_rules | `(tactic| walk_at "rd") => `(tactic| repeat (walk_at "rd1"))
theorem ysM:∀ y∈DM.ys,(aa cW).names.lookup y=some .cell:=by
 intro y hy
 rw [List.mem_singleton.mp hy];rfl
abbrev tdM:Array Value:=d8 DM.qual Ve
def auI (A:cM) (K:W.Frag) (Pt Pu:Addr):Sp:=fun vs H Q _=>∃ (N:Nm) (pa:Addr) (n:Str) (mo:Nat) (x:Kn) (y:Sy) (out:List Nd),vs=[.ref pa,.str n,.int (mo:Nat)]∧PQ A N H pa (SS N x y)∧N 0≠N 1∧Ly x y.1∧TF x∧Mf y.1.h∧(n=N 0∨n=N 1)∧mo≤64∧NF y.1 mo [(x.lo,x.hi)] [] 0 out∧H Pt=some (.iI Es)∧H Pu=some (.iI tdM) ∧
 ∀ p l zs H',aA H H'→H' p=some (.tup [.str (Yz y (mX N y n) out),.ref l])→H l=none→H' l=some (.lst zs)→zs.length≤1000→Paired (mH K H' 3) zs (tbL N x y (mX N y n) out)→Q (.ref p) H'
section
variable {P:Program}{w:World}{K:W.Frag}{mg:Str→Option Value}{base:Heap}{A:cM}{Pt Pu:Addr}
theorem Sd (T:Txt K mg A) (B:BMain mg base) {c0:Addr} (hc:A.aP.code=.ref c0) (hh:W.codeHdIn K c0 Pt=true) {c1:Addr} (hc1:A.gM.code=.ref c1) (hh1:W.codeHdIn K c1 Pu=true):aG P w K mg base bQ 16 A.uv A.gM ["paper","question","most"] (auI A K Pt Pu):=by
 have Vg:=R9 (P:=P) (w:=w) (base:=base) T
 have aaT:=Yu (P:=P) (w:=w) (base:=base) B hc hh T
 refine aG.weak (Pt:=Pu) (q:=DM.qual) (pos:=Ve) (sp:=fun vs H Q E=>∃ (N:Nm) (pa:Addr) (n:Str) (mo:Nat) (x:Kn) (y:Sy) (out:List Nd),vs=[.ref pa,.str n,.int (mo:Nat)]∧PQ A N H pa (SS N x y)∧N 0≠N 1∧Ly x y.1∧TF x∧Mf y.1.h∧(n=N 0∨n=N 1)∧mo≤64∧NF y.1 mo [(x.lo,x.hi)] [] 0 out∧H Pt=some (.iI Es)∧H Pu=some (.iI tdM) ∧
     ∀ c' p l zs H',(∀ b o,b≠Pu→H b=some o→H' b=some o)→H' Pu=some (.iI (tdM ++ #[.ref c']))→H' p=some (.tup [.str (Yz y (mX N y n) out),.ref l])→H l=none→H' l=some (.lst zs)→zs.length≤1000→Paired (mH K H' 3) zs (tbL N x y (mX N y n) out)→Q (.ref p) H') ?_ ?_
 · refine T.UJ.okC Rq (fun vs H Q E h=>?_) (fun cdv A0 outer s H vs Q E hcd hr h=>?_)
   · obtain⟨N,pa,n,mo,x,y,out,rfl,_⟩:=h
     rfl
   obtain⟨N,pa,n,mo,x,y,out,rfl,hP,hN,hAt,hx,hw,hn,hmo,RW,hT,hTu,q⟩:=h
   rw [hc1] at hcd
   subst hcd
   refine⟨_,(zE (zK (acx (D:=DM) (Pt:=Pu) (Ig:=Ve) (is:=[1]) Vg (hr.mono (by decide)) rfl T.UG T.Uz T.Uy .nil
     (zA (pv 0) (zA (zU aaT (hr.mono (by decide)) rfl T.Z5 T.Z4 T.W0 (.cons (show RelV .non .none from rfl) .nil) zQ (zA (pv 0) (zA (pv 2) zD))) (zA M7 (zA (Ti (Pt:=Pu) (pos:=Ve) TX rfl rfl rfl hh1 B ysM) zD))))
     (fun y hy=>⟨rfl,ysM y hy⟩) (by symm) (.cons rfl .nil)))),?_⟩
   have hle:=hx.le
   refine⟨_,rfl,_,rfl,_,rfl,N,pa,mo,x,y,(x.lo,x.hi),out,rfl,hP,hN,hAt,hw,hle,rfl,hT,hmo,RW,fun np H1 s1 auJ=>?_⟩
   intro kn hkn
   have s2:=zG hkn (.dT [])
   have KN:(upd H1 kn (.dT [])) kn=some (.dT []):=zB
   generalize upd H1 kn (HO.dT [])=H2 at s2 KN ⊢
   have S2:=s1.trans s2
   refine⟨S2 _ _ hTu,fun lp c' H3 nlp sB adz hlp hc'=>?_⟩
   have k23:Kq H2 H3:=fun b o e po=>sB b o (by rintro rfl;rw [S2 _ _ hTu] at e;cases e;exact po) e
   refine⟨c',[.str n],adz,.cons rfl .nil,fun H4 L=>?_⟩
   have k34:Kq H3 H4:=fun b o e po=>L.keep b o e (by rintro rfl;rw [adz] at e;cases e;exact po) (by rintro rfl;rw [hc'] at e;cases e;exact po)
   have k24:=k23.trans k34
   have k04:=(Kq.of S2).trans k24
   obtain⟨np',nx,e,hnp,hnl,hnx,fnp⟩:=auJ
   cases e
   have ahB:=s2 _ _ hnp
   have ahC:Paired (fG (fun a=>H a=none) H2 3) nx (out.map (PX N y.1 y.2)):=zH hnx fun _ _ z=>fG.same s2 z
   have hbd:=aby hw RW (lo:=x.lo) (hi:=x.hi) (fun s hs=>by rw [List.mem_singleton.mp hs];exact⟨Int.le_refl _,hle,Int.le_refl _⟩) (fun s hs=>by cases hs)
   refine⟨N,pa,x,y,out,np,nx,kn,lp,n,(fun a=>H a=none),rfl,hP.kq k04,hN,hAt,hx,hbd,k24 _ _ ahB trivial,hnl,zH ahC fun _ _ z=>fG.kq k24 z,k24 _ _ KN trivial,⟨_,⟨⟨c',k34 _ _ hlp trivial,L.code⟩,rfl,L.nd,L.cells⟩⟩,hn,fun v H5 s5 hR H6 r6=>?_⟩
   have S36:=L.same s5 r6
   have k56:Kq H5 H6:=fun b o e po=>r6.new b o e (by intro ob u z;rw [z] at po;exact po)
   have adA:=S36 _ _ adz
   have old:∀ b o,b≠Pu→H b=some o→H6 b=some o:=fun b o nb e=>S36 _ _ (sB b o nb (S2 _ _ e))
   obtain⟨p,l,rfl,hp,hm⟩:=hR
   have hp6:=k56 _ _ hp trivial
   have auK:H6 np=some (.lst nx):=k56 _ _ (s5 _ _ (k24 _ _ ahB trivial)) trivial
   cases hit:Ei (mX N y n) (uW out) with
   | none =>
     rw [hit] at hm
     have hm:l=np:=hm
     subst hm
     refine q c' p l nx H6 old adA hp6 fnp auK hnl ?_
     unfold tbL
     rw [hit]
     exact zH ahC fun _ _ z=>fG.r (fG.kq k56 (fG.same s5 (fG.kq k24 z)))
   | some sk =>
     obtain⟨s,k⟩:=sk
     rw [hit] at hm
     obtain⟨hl4,zs,hzs,hpz⟩:=(show H4 l=none∧∃ zs,H5 l=some (.lst zs)∧Paired (mH K H5 2) zs ((nnk N k).map fun _=>Yy N x s) from hm)
     have hl6:=k56 _ _ hzs trivial
     refine q c' p l zs H6 old adA hp6 ?_ hl6 ?_ ?_
     · cases hl:H l with
       | none=>rfl
       | some o =>
         by_cases e1:l=Pu
         · subst e1;rw [adA] at hl6;cases hl6
         · have h3:=sB l o e1 (S2 _ _ hl)
           by_cases e2:l=c'
           · subst e2
             obtain⟨ob,z⟩:=L.code
             rw [hl4] at z;cases z
           · rw [L.keep l o h3 e1 e2] at hl4;cases hl4
     · have:=zV hpz
       rw [this,List.length_map]
       unfold nnk
       split <;> simp
     · unfold tbL
       rw [hit]
       exact zH hpz fun _ _ z=>mH.up (mH.kq k56 z)
 · intro vs H Q E h
   obtain⟨N,pa,n,mo,x,y,out,rfl,hP,hN,hAt,hx,hw,hn,hmo,RW,hT,hTu,q⟩:=h
   refine⟨hTu,N,pa,n,mo,x,y,out,rfl,hP,hN,hAt,hx,hw,hn,hmo,RW,hT,hTu,fun c' p l zs H5 old hT5 hp hl hl5 hlen hpz=>.inl ⟨c',hT5,?_⟩⟩
   have k:Kq H5 (upd H5 Pu (.iI (d8 DM.qual Ve))):=fun b o e po=>by
     rw [zI (by rintro rfl;rw [hT5] at e;cases e;exact po)];exact e
   refine q p l zs _ (fun b o e=>?_) (k _ _ hp trivial) hl (k _ _ hl5 trivial) hlen (zH hpz fun _ _ z=>mH.kq k z)
   by_cases e1:b=Pu
   · subst e1;rw [hTu] at e;cases e;exact zB
   · rw [zI e1];exact old b o e1 e
end
end iy
set_option maxHeartbeats 4000000
namespace L2
open PySem PySem.Spec PyProof.Rows PySem.Calls
def Vh (H:Hp) (ys:List V):V→Bool
 | .ref q=>match H q with
   | some (.tup e)=>zx e ys
   | _=>false
 | _=>false
def J4 (H:Hp) (ys:List V):Value→Bool
 | .ref q=>Vh H ys (.ref q)
 | _=>false
theorem aaU {X:Cx} (hu:X.A.units+20<cLine):iw X (compareOp .In) (fun x y H Q=>∃ t p xs ys,x=.ref t∧y=.ref p∧H t=some (.tup ys)∧ys.all fH=true∧bR X.K H p xs∧(∀ z∈xs,∃ q e,z=.ref q∧H q=some (.tup e)∧e.all fH=true)∧Q (.bl (xs.any (Vh H ys))) H):=by
 intro pins s σ H x y v u Q I rx ry h
 obtain⟨t,p,xs,ys,rfl,rfl,ht,fy,hq,hz,q⟩:=h
 cases ry
 cases rx
 obtain⟨its,rv,pl,_⟩:=I.list hq
 have key:∀ {xs:List V}{us:List Value},Vals xs us→(∀ z∈xs,∃ q e,z=.ref q∧H q=some (.tup e)∧e.all fH=true)→(∀ w∈us,SeqAt.EqAt X.A.in1 s w (.ref t) (J4 H ys w))∧us.any (J4 H ys)=xs.any (Vh H ys):=by
   intro xs us rv
   induction rv with
   | nil=>intro _;exact⟨fun w hw=>(by cases hw),rfl⟩
   | cons a _ ih =>
     rename_i x' u' xs' us' _
     intro f
     obtain⟨i1,i2⟩:=ih fun z hz=>f z (List.mem_cons_of_mem _ hz)
     obtain⟨q',e,rfl,hq',fe⟩:=f x' (by simp)
     cases a
     refine⟨fun w hw=>?_,by rw [List.any_cons,List.any_cons,i2];rfl⟩
     rcases List.mem_cons.mp hw with e1 | e1
     · subst e1
       have e2:J4 H ys (.ref q')=zx e ys:=by show (match H q' with | some (.tup e)=>zx e ys | _=>false)=_;rw [hq']
       rw [e2]
       by_cases n:q'=t
       · subst n
         rw [ht] at hq';cases hq'
         rw [Nr fe]
         exact Wk (X:=X) (H:=H) (n:=1) pins s σ _ _ X.A.in1 I rfl rfl (by show X.A.units+1+1<_;omega)
       · exact Wl (X:=X) n (Ad (n:=1) (dH.of hq') (dH.of ht) fe fy) pins s σ _ _ X.A.in1 I rfl rfl (by show X.A.units+1+2<_;omega)
     · exact i1 w e1
 obtain⟨k1,k2⟩:=key rv hz
 refine SeqAt.in_listAt (J4 H ys) pl.isList (fun w hw=>k1 w (by simpa using hw)) ⟨.bl _,H,I,rfl,?_⟩
 rw [show its.toArray.any (J4 H ys)=its.any (J4 H ys) by simp,k2]
 exact q
end L2
namespace iy
open PySem L2
seal PE PT PW PA PS m6 PG uC PI PO ji iw wN cg jj rN rM PC wW
local macro_rules | `(tactic| walk_at "rd1") => `(tactic| first
 | (refine And.intro rfl ?_)
 | (refine And.intro (by assumption) ?_)
 | (refine And.intro (fun _ e=>e) ?_)
 | (refine And.intro (aB.str _) ?_) | (refine And.intro (aB.int _) ?_) | (refine And.intro (aB.bl _) ?_) | (refine And.intro aB.non ?_)
 | (refine bA ?_) | (refine aF ?_)
 | (apply Exists.intro))
local macro_rules | `(tactic| walk_at "rd") => `(tactic| repeat (walk_at "rd1"))
def auM (K:W.Frag):Sp:=fun vs H Q _=>∃ v x r,vs=[v,.int r]∧KtR H v x∧TF x∧x.lo≤r∧r≤x.hi∧∀ u H',aA H H'→mH K H' 1 u (smp x r)→Q u H'
section
variable {P:Program}{w:World}{K:W.Frag}{mg:Str→Option Value}{base:Heap}{A:cM}
theorem Jt (T:Txt K mg A):aG P w K mg base bQ 1 A.mQ A.qY ["_law_kind_here","_law_rank"] (auM K):=by
 refine T.Le.ok Jh (fun vs H Q E h=>?_) (fun cdv A0 outer s H vs Q E hr h=>?_)
 · obtain⟨v,x,r,rfl,_⟩:=h
   rfl
 obtain⟨v,x,r,rfl,⟨a,rfl,ha⟩,hx,h0,h1,q⟩:=h
 refine⟨_,(zC (zZ (zL yM (zS zX (pv 0) zF (fun _ _=>rfl)) zM (zN _)) (zE (zK (xF yM (pv 1) zF (zN _)))) zP)
     (zC (zZ (zL yM (zS zX (pv 0) zF (fun _ _=>rfl)) zM (zN _)) (zE (zK (zS bj (yJ (zA zM (zA zM (zA zM (zA zM (zA zM (zA zM zD))))))) (pv 1) (fun _ _=>rfl)))) zP)
     (zC (zZ (zL yM (zS zX (pv 0) zF (fun _ _=>rfl)) zM (zN _)) (zE (zK (pY Ep (yA (zA zM (zA zM (zA zM (zA zM (zA zM (zA zM zD))))))) ue (uf (pv 1))))) zP)
     (zE (zK (pv 1)))))),?_⟩
 have ha':dH K H a _:=dH.of ha
 have i0:iM [V.str (kw x),.int x.lo,.int x.hi] ((0:Nat):Int)=some (.str (kw x)):=zR rfl
 cases x with
 | yn =>
   refine⟨_,rfl,a,_,_,_,rfl,rfl,ha',i0,rfl,_,rfl,CW rfl ⟨_,rfl,rfl,q _ _ (aA.refl _) ⟨?_,trivial⟩⟩⟩
   show V.bl (decide (V.int r=V.int 1))=_
   rw [deI]
 | pk ws =>
   obtain⟨n,n1,n2,rfl⟩:=hx
   have e:=t7 n2
   have h0:0≤r:=h0
   have h1:r≤(((W6.take n).length:Nat):Int) - 1:=h1
   refine⟨_,rfl,a,_,_,_,rfl,rfl,ha',i0,rfl,_,rfl,mz (show ‹"pick"› ≠ ‹"yesno"› by symm) ?_⟩
   refine⟨_,rfl,a,_,_,_,rfl,rfl,ha',i0,rfl,_,rfl,CW rfl ?_⟩
   refine⟨(by show 6≤sizeLine;decide),fun wl hwl=>?_⟩
   have hat:iM (W6.map V.str) r=some (.str (((W6.take n)[r.toNat]?).getD ‹""›)):=by
     obtain⟨v,hv,hv2⟩:=qy (l:=W6.map V.str) (i:=r) h0 (by rw [List.length_map];show r<6;omega)
     obtain⟨z,hz,rfl⟩:=oO hv2
     rw [hv,List.getElem?_take_of_lt (by omega),hz];rfl
   exact⟨_,rfl,wl,_,_,_,rfl,rfl,bR.of zB,hat,q _ _ (zG hwl _) ⟨rfl,trivial⟩⟩
 | nm hi =>
   have h0:0≤r:=h0
   have ec:=ahv h0
   refine⟨_,rfl,a,_,_,_,rfl,rfl,ha',i0,rfl,_,rfl,mz (show ‹"names"› ≠ ‹"yesno"› by symm) ?_⟩
   refine⟨_,rfl,a,_,_,_,rfl,rfl,ha',i0,rfl,_,rfl,mz (show ‹"names"› ≠ ‹"pick"› by symm) ?_⟩
   refine⟨_,rfl,a,_,_,_,rfl,rfl,ha',i0,rfl,_,rfl,CW rfl ?_⟩
   refine⟨(by show 6≤sizeLine;decide),fun tl htl=>?_⟩
   have s1:=zG htl (.tup (S6.map V.str))
   have TL:(upd H tl (.tup (S6.map V.str))) tl=some (.tup (S6.map V.str)):=zB
   by_cases e:HT.gq (S6.map V.str).length 0 none=0∧HT.gq (S6.map V.str).length (S6.map V.str).length (some r)=(S6.map V.str).length
   · refine⟨_,rfl,_,rfl,tl,S6.map V.str,rfl,dH.of TL,.inl ⟨e,q _ _ s1 (aaO (.inl ?_))⟩⟩
     have:(S6.map V.str).take 6=pG (S6.map V.str) none (some r):=by
       unfold pG
       rw [e.1,e.2,List.drop_zero];rfl
     rw [← ec,← this];exact TL
   · refine⟨_,rfl,_,rfl,tl,S6.map V.str,rfl,dH.of TL,.inr ⟨e,fun p hp=>?_⟩⟩
     refine q _ _ (s1.trans (zG hp _)) (aaO (.inl ?_))
     rw [← ec];exact zB
 | mo lo hi =>
   refine⟨_,rfl,a,_,_,_,rfl,rfl,ha',i0,rfl,_,rfl,mz (show ‹"money"› ≠ ‹"yesno"› by symm) ?_⟩
   refine⟨_,rfl,a,_,_,_,rfl,rfl,ha',i0,rfl,_,rfl,mz (show ‹"money"› ≠ ‹"pick"› by symm) ?_⟩
   refine⟨_,rfl,a,_,_,_,rfl,rfl,ha',i0,rfl,_,rfl,mz (show ‹"money"› ≠ ‹"names"› by symm) ?_⟩
   exact⟨_,rfl,q _ _ (aA.refl _) ⟨rfl,trivial⟩⟩
 | wh lo hi =>
   refine⟨_,rfl,a,_,_,_,rfl,rfl,ha',i0,rfl,_,rfl,mz (show ‹"whole"› ≠ ‹"yesno"› by symm) ?_⟩
   refine⟨_,rfl,a,_,_,_,rfl,rfl,ha',i0,rfl,_,rfl,mz (show ‹"whole"› ≠ ‹"pick"› by symm) ?_⟩
   refine⟨_,rfl,a,_,_,_,rfl,rfl,ha',i0,rfl,_,rfl,mz (show ‹"whole"› ≠ ‹"names"› by symm) ?_⟩
   exact⟨_,rfl,q _ _ (aA.refl _) ⟨rfl,trivial⟩⟩
end
theorem aaV {H:Hp}{N:Nm}{kn:Option Bool}{dn:Bool} (hN:N 0≠N 1) {ts:List V} (h:Paired (jB H) ts (rR N kn dn)):ts.any (Vh H (gn (N 1)))=decide (kn=some (!dn)):=by
 have aux:∀ {ts:List V}{L:List (List V)},Paired (jB H) ts L→ts.any (Vh H (gn (N 1)))=L.any fun e=>zx e (gn (N 1)):=by
   intro ts L h
   induction h with
   | nil=>rfl
   | @cons a e _ _ r _ ih =>
     obtain⟨ta,rfl,ht⟩:=r
     rw [List.any_cons,List.any_cons,ih]
     congr 1
     show (match H ta with | some (.tup e)=>zx e (gn (N 1)) | _=>false)=_
     rw [ht]
 rw [aux h]
 have e0:zx (gn (N 0)) (gn (N 1))=false:=by simp [gn,zx,JB,hN]
 have e1:zx (gn (N 1)) (gn (N 1))=true:=by simp [gn,zx,JB]
 have e2:zx Hz (gn (N 1))=false:=by simp [gn,Hz,zx]
 unfold rR
 rw [List.any_append,List.any_append]
 by_cases c:kn=some (!dn)
 · rw [if_pos c,decide_eq_true c]
   simp [e0,e1]
 · rw [if_neg c,decide_eq_false c]
   by_cases c2:kn=none
   · rw [if_pos c2];simp [e0]
   · rw [if_neg c2];simp [e0,e2]
theorem YF (y:Sy) (l:List jf) (s:jf):zu y (l++[s])=if oK y s=none then ‹"unknown"› else zu y l:=by
 unfold zu
 rw [List.all_append]
 by_cases c:oK y s=none
 · rw [if_pos c,if_neg (by simp [c])]
 · have e:([s].all fun s=>!decide (oK y s=none))=true:=by
     show (!decide (oK y s=none) && true)=true
     rw [decide_eq_false c];rfl
   rw [if_neg c,e,Bool.and_true]
def ahF (K:W.Frag):Sp:=fun vs H Q _=>∃ (nl:Addr) (N:Nm) (v:V) (x:Kn) (y:Sy) (np:Addr) (nx:List V) (out:List Nd) (F:Addr→Prop),vs=[.ref nl,v,.ref np]∧NmR H nl N∧KtR H v x∧TF x∧N 0≠N 1∧(∀ s,Nd.lf s∈out→x.lo≤s.1∧s.1≤s.2∧s.2≤x.hi)∧H np=some (.lst nx)∧nx.length≤1000∧Paired (fG F H 3) nx (out.map (PX N y.1 y.2)) ∧
 ∀ p l zs H',aA H H'→H' p=some (.tup [.str (Yz y (mX N y (N 1)) out),.ref l])→H' l=some (.lst zs)→zs.length≤1000→Paired (mH K H' 3) zs (tbL N x y (mX N y (N 1)) out)→Q (.ref p) H'
section
variable {P:Program}{w:World}{K:W.Frag}{mg:Str→Option Value}{base:Heap}{A:cM}
theorem Sh (T:Txt K mg A):aG P w K mg base bQ 2 A.ux A.Ak ["_law_names","_law_kind_here","_law_nodes_here"] (ahF K):=by
 have Mw:=Jt (P:=P) (w:=w) (base:=base) T
 refine T.U3.ok rA (fun vs H Q E h=>?_) (fun cdv A0 outer s H vs Q E hr h=>?_)
 · obtain⟨nl,N,v,x,y,np,nx,out,F,rfl,_⟩:=h
   rfl
 obtain⟨nl,N,v,x,y,np,nx,out,F,rfl,hNm,hv,hx,hN,hbd,hnp,hnl,hnx,q⟩:=h
 refine⟨_,(zC (zT (i:=3) rA.nd rfl ‹0› zM)
     (zC (xK PassesOwn.never rfl (yT (pv 2)) (yP (i:=4) rA.nd rfl ‹0›) (zC (zZ (PW.pt (xI (zL yM (zS zX (pv 4) zF (fun _ _=>rfl)) zM (zN _)) (yY (zL (aaU (agg hr)) (yA (zA zM (zA (zS bj (pv 0) zF (fun _ _=>rfl)) (zA zF zD)))) (zS zX (pv 4) zF (fun _ _=>rfl)) (by rfl))))) (zE (zK (yA (zA zM (zA (yJ (zA (yA (zA (zS bj (pv 0) zF (fun _ _=>rfl)) (zA zM (zA (zU Mw ‹hr› rfl T.Lh T.Lg T.Lf .nil zQ (zA (pv 1) (zA (zS (bj.or zX) (zS bj (zS zX (pv 4) zF (fun _ _=>rfl)) zF (fun _ _=>rfl)) zF (fun _ _=>rfl)) zD))) zD)))) zD)) zD))))) zP)
     (zE (zZ (PW.pt (xI (zL yM (zS zX (pv 4) zF (fun _ _=>rfl)) zM (zN _)) (yY (xT (yO (zS zX (pv 4) zF (fun _ _=>rfl))))))) (zE (zT (i:=3) rA.nd rfl ‹0› zM)) zP))))
     (zE (zK (yA (zA (pv 3) (zA (pv 2) zD))))))),?_⟩
 have ln:=zV hnx
 rw [List.length_map] at ln
 have n0:iM [V.str (N 0),.str (N 1)] ((0:Nat):Int)=some (.str (N 0)):=zR rfl
 have n1:iM [V.str (N 0),.str (N 1)] ((1:Nat):Int)=some (.str (N 1)):=zR rfl
 refine⟨_,rfl,np,rfl,⟨nx,bR.of hnp⟩,?_⟩
 refine yV (xs:=nx) (fun i σ G=>∃ u,σ=[some (.ref nl),some v,some (.ref np),some (.str (zu y (uW (out.take i)))),u]∧aA H G∧∀ s∈uW (out.take i),mX N y (N 1) s=none) ⟨_,rfl,aA.refl _,fun _ h=>by cases h⟩ (fun i σ G hi hw=>?_) (fun i e σ G hx' hw=>?_) (fun σ G hw=>?_)
 · obtain⟨u,rfl,sG,_⟩:=hw
   exact bR.of (sG _ _ hnp)
 · obtain⟨u,rfl,sG,hno⟩:=hw
   obtain⟨t,ht,htr⟩:=yF hnx hx'
   rw [List.getElem?_map] at ht
   obtain⟨dd,hdd,rfl⟩:=Option.map_eq_some_iff.mp ht
   have htr:=fG.same sG htr
   rw [Pz hdd]
   cases dd with
   | sp c m =>
     obtain⟨a,xs,rfl,ha,_,hpp⟩:=htr
     obtain⟨rest,rfl⟩:∃ rest,xs=.str ‹"split"›::rest:=by
       cases hpp with
       | cons p1 _=>exact⟨_,by rw [p1.1]⟩
     have ne:=show ‹"split"› ≠ ‹"leaf"› by symm
     refine⟨_,rfl,a,_,_,_,rfl,rfl,dH.of ha,zR (j:=0) rfl,rfl,_,rfl,mz ne (aF ?_)⟩
     refine⟨_,rfl,a,_,_,_,rfl,rfl,dH.of ha,zR (j:=0) rfl,rfl,_,rfl,mz ne (aF ?_)⟩
     show ∃ u,_
     rw [show uW [Nd.sp c m]=[] from rfl,List.append_nil]
     exact⟨_,rfl,sG,hno⟩
   | lf s =>
     have hsb:=hbd s (List.mem_of_getElem? hdd)
     obtain⟨a,lg,rg,db,ts,us,rfl,ha,RQ,hts,hrg,hus⟩:=Eu htr
     have i2:iM [V.str ‹"leaf"›,.bl (!decide (kh s y.1.h y.1.m=none)),.ref lg,.ref rg,.ref db] ((2:Nat):Int)=some (.ref lg):=zR rfl
     have i3:iM [V.str ‹"leaf"›,.bl (!decide (kh s y.1.h y.1.m=none)),.ref lg,.ref rg,.ref db] ((3:Nat):Int)=some (.ref rg):=zR rfl
     have i1:iM [V.str ‹"leaf"›,.bl (!decide (kh s y.1.h y.1.m=none)),.ref lg,.ref rg,.ref db] ((1:Nat):Int)=some (.bl (!decide (kh s y.1.h y.1.m=none))):=zR rfl
     rw [show uW [Nd.lf s]=[s] from rfl]
     have ahG:∀ z∈ts,∃ q e,z=.ref q∧G q=some (.tup e)∧e.all fH=true:=by
       have aux:∀ {ts:List V}{L:List (List V)},Paired (jB G) ts L→(∀ e∈L,e.all fH=true)→∀ z∈ts,∃ q e,z=.ref q∧G q=some (.tup e)∧e.all fH=true:=by
         intro ts L h
         induction h with
         | nil=>intro _ z hz;cases hz
         | @cons a' e' _ _ r _ ih =>
           intro hf z hz
           rcases List.mem_cons.mp hz with rfl | hz
           · obtain⟨ta,rfl,ht⟩:=r
             exact⟨ta,e',rfl,ht,hf _ List.mem_cons_self⟩
           · exact ih (fun e he=>hf e (List.mem_cons_of_mem _ he)) z hz
       refine aux hts fun e he=>?_
       unfold rR at he
       rcases List.mem_append.mp he with he | he
       · rcases List.mem_append.mp he with he | he
         · rw [List.mem_singleton.mp he];rfl
         · split at he
           · rw [List.mem_singleton.mp he];rfl
           · cases he
       · split at he
         · cases he
         · rw [List.mem_singleton.mp he];rfl
     refine⟨_,rfl,a,_,_,_,rfl,rfl,dH.of ha,zR (j:=0) rfl,rfl,_,rfl,CW rfl ?_⟩
     refine⟨_,rfl,nl,_,_,_,rfl,rfl,bR.of (sG _ _ hNm),n1,(by show 3≤sizeLine;decide),fun t1 ht1=>?_⟩
     have s1:=zG ht1 (.tup (gn (N 1)))
     have T1:(upd G t1 (.tup (gn (N 1)))) t1=some (.tup (gn (N 1))):=zB
     have S1:=sG.trans s1
     refine⟨_,rfl,a,_,_,_,rfl,rfl,dH.of (s1 _ _ ha),i2,t1,lg,ts,gn (N 1),rfl,rfl,T1,rfl,bR.of (s1 _ _ RQ),(fun z hz=>by
       obtain⟨q',e,e1,e2,e3⟩:=ahG z hz
       exact⟨q',e,e1,s1 _ _ e2,e3⟩),_,rfl,?_⟩
     have hany:=aaV (H:=upd G t1 (.tup (gn (N 1)))) hN (zH hts fun _ _=>jB.kq (.of s1))
     show if ts.any (Vh (upd G t1 (.tup (gn (N 1)))) (gn (N 1)))=true then _ else _
     rw [hany]
     refine lC (fun c=>?_) (fun c=>?_)
     · have c:oK y s=some (!y.2):=of_decide_eq_true c
       have hck:mX N y (N 1) s=some 1:=by rw [YB hN,if_pos c]
       have hit:Ei (mX N y (N 1)) (uW out)=some (s,1):=by
         have e:uW out=uW (out.take i)++(s::uW (out.drop (i+1))):=by
           have:out=out.take i++(Nd.lf s::out.drop (i+1)):=by rw [← Eo hdd,List.take_append_drop]
           conv=>lhs;rw [this]
           unfold uW
           rw [List.filterMap_append];rfl
         rw [e]
         refine Mv (i:=(uW (out.take i)).length) (fun t ht=>hno t ?_) ?_ hck
         · rw [List.take_left'] at ht
           · exact ht
           · rfl
         · rw [List.getElem?_append_right (Nat.le_refl _),Nat.sub_self];rfl
       obtain⟨u0,us',rfl,r0,hr0⟩:∃ u0 us',us=u0::us'∧∃ r0,u0=.ref r0∧G r0=some (.tup [.str (N 0),.int 0,.int s.1,.int s.2]):=by
         unfold wL at hus
         cases hus with
         | cons r _=>obtain⟨r0,rfl,hr⟩:=r;exact⟨_,_,rfl,r0,rfl,hr⟩
       obtain⟨rfl,hr0⟩:=hr0
       have k2:iM [V.str (N 0),.int 0,.int s.1,.int s.2] ((2:Nat):Int)=some (.int s.1):=zR rfl
       refine⟨_,rfl,nl,_,_,_,rfl,rfl,bR.of (S1 _ _ hNm),n0,_,rfl,_,rfl,a,_,_,_,rfl,rfl,dH.of (s1 _ _ ha),i3,rg,_,_,_,rfl,rfl,bR.of (s1 _ _ hrg),zR (j:=0) rfl,.inr ⟨r0,_,_,_,rfl,rfl,dH.of (s1 _ _ hr0),k2,?_⟩⟩
       refine⟨v,x,s.1,rfl,jB.kq (.of S1) hv,hx,hsb.1,Int.le_trans hsb.2.1 hsb.2.2,fun uu H3 s3 hu=>?_⟩
       refine⟨(by show 3≤sizeLine;decide),fun tp htp=>?_⟩
       have s4:=zG htp (.tup [.str (N 0),.str ‹""›,uu])
       have TP:(upd H3 tp (.tup [.str (N 0),.str ‹""›,uu])) tp=some (.tup [.str (N 0),.str ‹""›,uu]):=zB
       refine⟨(by show 1≤sizeLine;decide),fun rl hrl=>?_⟩
       have s5:=zG hrl (.lst [.ref tp])
       refine⟨(by show 2≤sizeLine;decide),fun p hp=>?_⟩
       have s6:=zG hp (.tup [.str ‹"row"›,.ref rl])
       have s46:=(s4.trans s5).trans s6
       refine q p rl [.ref tp] _ ((S1.trans s3).trans s46) ?_ (s6 _ _ zB) (by show 1≤1000;decide) ?_
       · unfold Yz;rw [hit];exact zB
       · unfold tbL;rw [hit]
         exact .cons ⟨tp,_,rfl,.inl ((s5.trans s6) _ _ TP),(by show 3≤1000;decide),.cons ⟨rfl,trivial⟩ (.cons ⟨rfl,trivial⟩ (.cons (mH.up (mH.same s46 hu)) .nil))⟩ .nil
     · have c:¬ (oK y s=some (!y.2)):=fun z=>c (decide_eq_true z)
       have hck:mX N y (N 1) s=none:=by rw [YB hN,if_neg c]
       have hno':∀ t∈uW (out.take i)++[s],mX N y (N 1) t=none:=fun t ht=>by
         rcases List.mem_append.mp ht with ht | ht
         · exact hno t ht
         · rw [List.mem_singleton.mp ht];exact hck
       refine⟨_,rfl,a,_,_,_,rfl,rfl,dH.of (s1 _ _ ha),zR (j:=0) rfl,rfl,_,rfl,CW rfl ?_⟩
       refine⟨_,rfl,a,_,_,_,rfl,rfl,dH.of (s1 _ _ ha),i1,_,rfl,?_⟩
       rw [YF]
       by_cases c2:oK y s=none
       · rw [if_pos c2,decide_eq_true (show kh s y.1.h y.1.m=none from c2)]
         exact bA ⟨_,rfl,S1,hno'⟩
       · rw [if_neg c2,decide_eq_false (show ¬ (kh s y.1.h y.1.m=none) from c2)]
         exact aF ⟨_,rfl,S1,hno'⟩
 · obtain⟨u,rfl,sG,hno⟩:=hw
   rw [ln,List.take_length] at hno ⊢
   have hit:=HR hno
   refine⟨_,rfl,_,rfl,(by show 2≤sizeLine;decide),fun p hp=>?_⟩
   have s1:=zG hp (.tup [.str (zu y (uW out)),.ref np])
   refine q p np nx _ (sG.trans s1) ?_ ((sG.trans s1) _ _ hnp) hnl ?_
   · unfold Yz;rw [hit];exact zB
   · unfold tbL;rw [hit]
     exact zH hnx fun _ _ z=>fG.r (fG.same (sG.trans s1) z)
end
def YG (K:W.Frag) (Pt Pu:Addr):Sp:=fun vs H Q _=>∃ (a:Addr) (ns:List Int),vs=[.ref a]∧bR K H a (ns.map V.int)∧ns.length≤63∧(∀ n∈ns,ib n≤1048576)∧H Pt=some (.iI Es)∧H Pu=some (.iI tdM)∧∀ H',Q (.bl true) H'
structure Ev (K:W.Frag) (Pt Pu a:Addr) (ns:List Int) (nl:Addr) (N:Nm) (H:Hp):Prop where
 A:bR K H a (ns.map V.int)
 N:NmR H nl N
 T:H Pt=some (.iI Es)
 U:H Pu=some (.iI tdM)
theorem Ev.same {K:W.Frag}{Pt Pu a:Addr}{ns:List Int}{nl:Addr}{N:Nm}{H H':Hp} (h:Ev K Pt Pu a ns nl N H) (s:aA H H'):Ev K Pt Pu a ns nl N H':=⟨s.seq h.A,s _ _ h.N,s _ _ h.T,s _ _ h.U⟩
theorem jB.same {H H':Hp} (s:aA H H') {x:V}{t:List V} (h:jB H x t):jB H' x t:=h.kq (.of s)
theorem ahH {N:Nm}{y:Sy}{out:List Nd}{s:jf} (h:Nd.lf s∈out):∃ s',Ei (mX N y (N 0)) (uW out)=some (s',0):=by
 have hm:s∈uW out:=List.mem_filterMap.mpr ⟨_,h,rfl⟩
 cases e:uW out with
 | nil=>rw [e] at hm;cases hm
 | cons s0 r=>exact⟨s0,Mv (i:=0) (fun _ h=>by cases h) rfl abC⟩
theorem rC {K:W.Frag}{H:Hp}{p l:Addr}{w:Str}{zs:List V}{L:List Tr} (hp:H p=some (.tup [.str w,.ref l])) (hl:H l=some (.lst zs)) (hn:zs.length≤1000) (h:Paired (mH K H 3) zs L):mH K H 5 (.ref p) (.tup [.leaf (.str w),.lst L]):=⟨p,_,rfl,.inl hp,(by show 2≤1000;decide),.cons ⟨rfl,trivial⟩ (.cons ⟨l,zs,rfl,hl,hn,h⟩ .nil)⟩
section
variable {P:Program}{w:World}{K:W.Frag}{mg:Str→Option Value}{base:Heap}{A:cM}{Pt Pu:Addr}
theorem adB (T:Txt K mg A) (B:BMain mg base) {c0:Addr} (hc:A.aP.code=.ref c0) (hh:W.codeHdIn K c0 Pt=true) {c1:Addr} (hc1:A.gM.code=.ref c1) (hh1:W.codeHdIn K c1 Pu=true):aG P w K mg base bQ 40 A.WN A.WQ ["_law_script"] (YG K Pt Pu):=by
 have fM:=pB (P:=P) (w:=w) (base:=base) T
 have HS:=Ox (P:=P) (w:=w) (base:=base) T
 have Sq:=Pg (P:=P) (w:=w) (base:=base) T
 have Ss:=Ph (P:=P) (w:=w) (base:=base) T
 have Mx:=Js (P:=P) (w:=w) (base:=base) T
 have My:=Jr (P:=P) (w:=w) (base:=base) T
 have t8:=OJ (P:=P) (w:=w) (base:=base) T
 have km:=CV (P:=P) (w:=w) (base:=base) T
 have BV:=Jj (P:=P) (w:=w) (base:=base) T
 have BW:=Jk (P:=P) (w:=w) (base:=base) T
 have Dc:=Mp (P:=P) (w:=w) (base:=base) T
 have jh:=Pb (P:=P) (w:=w) (base:=base) T 6
 have uA:=Sd (P:=P) (w:=w) (base:=base) T B hc hh hc1 hh1
 have J5:=Sh (P:=P) (w:=w) (base:=base) T
 refine T.abk.ok my (fun vs H Q E h=>?_) (fun cdv A0 outer s H vs Q E hr h=>?_)
 · obtain⟨a,ns,rfl,_⟩:=h
   rfl
 obtain⟨a,ns,rfl,hA,hl,hb,hT,hU,q⟩:=h
 refine⟨_,(zC (zT (i:=1) my.nd rfl ‹0› (yJ (zA (zU HS ‹hr› rfl T.GF T.GD T.GC .nil zQ (zA (pv 0) (zA zF zD))) (zA (zU HS ‹hr› rfl T.GF T.GD T.GC .nil zQ (zA (pv 0) (zA zF zD))) zD))))
     (zC (zT (i:=2) my.nd rfl ‹0› (zU Sq ‹hr› rfl T.Q5 T.Q4 T.Q3 .nil zQ (zA (zU fM ‹hr› rfl T.j8 T.j7 T.j6 .nil zQ (zA (pv 0) (zA zF zD))) zD)))
     (zC (zT (i:=3) my.nd rfl ‹0› (zU Ss ‹hr› rfl T.Q9 T.Q8 T.Q7 .nil zQ (zA (pv 0) (zA (pv 2) (zA (zS zX (pv 2) zF (fun _ _=>rfl)) (zA (zS zX (pv 2) zF (fun _ _=>rfl)) zD))))))
     (zC (zT (i:=4) my.nd rfl ‹0› (zU Mx ‹hr› rfl T.Ld T.Lb T.La .nil zQ (zA (pv 0) (zA (zS bj (pv 1) zF (fun _ _=>rfl)) (zA (pv 2) (zA (pv 3) zD))))))
     (zC (zT (i:=5) my.nd rfl ‹0› (xF yM (zY yX (zU fM ‹hr› rfl T.j8 T.j7 T.j6 .nil zQ (zA (pv 0) (zA zF zD))) zF) zF (zN _)))
     (zC (zT (i:=6) my.nd rfl ‹0› (yJ (zA (xA T.Xj t8 ‹hr› rfl T.abm T.Dr T.Ds zQ (zA (zS bj (pv 1) zF (fun _ _=>rfl)) (zA (zU My ‹hr› rfl T.K8 T.K7 T.K6 .nil zQ (zA (pv 2) zD)) zD))) (zA (xA T.Xj t8 ‹hr› rfl T.abm T.Gj .nil zQ (zA (zS bj (pv 1) zF (fun _ _=>rfl)) (zA (MP T.Om km ‹hr› rfl T.Tv T.qg .nil zQ) (zA (pv 4) zD)))) zD))))
     (zC (zT (i:=7) my.nd rfl ‹0› (xA T.Xl BW ‹hr› rfl T.aac T.Ba .nil zQ (zA zM (zA (yJ (zA (xA T.Xk BV ‹hr› rfl T.aad T.Ay .nil zQ (zA zM (zA yQ (zA (pv 6) (zA (yJ zD) zD))))) zD)) (zA (yJ zD) zD)))))
     (zC (zT (i:=8) my.nd rfl ‹0› (zY yX (zU fM ‹hr› rfl T.j8 T.j7 T.j6 .nil zQ (zA (pv 0) (zA zF zD))) zF))
     (zC (zZ (xT (yO (zU jh ‹hr› rfl T.lJ T.lH T.lG .nil zQ (zA (zU uA ‹hr› rfl T.uz T.uy T.Bm .nil zQ (zA (pv 7) (zA (zS bj (pv 1) zF (fun _ _=>rfl)) (zA (pv 8) zD)))) (zA (yA (zA zM (zA (yJ zD) zD))) zD))))) (zE (zK xP)) zP)
     (zC (zT (i:=9) my.nd rfl ‹0› (zU J5 ‹hr› rfl T.JW T.JV T.JT .nil zQ (zA (pv 1) (zA (pv 2) (zA (zU Dc ‹hr› rfl T.Cy T.Cw T.Cv .nil zQ (zA (pv 1) (zA (pv 3) (zA (pv 5) (zA (yA (zA (zS zX (pv 2) zF (fun _ _=>rfl)) (zA (zS zX (pv 2) zF (fun _ _=>rfl)) zD))) (zA (pv 8) zD)))))) zD)))))
     (zC (zT (i:=10) my.nd rfl ‹0› (zU uA ‹hr› rfl T.uz T.uy T.Bm .nil zQ (zA (pv 7) (zA (zS bj (pv 1) zF (fun _ _=>rfl)) (zA (pv 8) zD)))))
     (zC (zZ (xT (yO (zU jh ‹hr› rfl T.lJ T.lH T.lG .nil zQ (zA (pv 10) (zA (pv 9) zD))))) (zE (zK xP)) zP)
     (zC (yG (mC PySem.F.plainAttrs_list PySem.F.slot_list_append PySem.F.type_list_append yU (zS zX (pv 10) zF (fun _ _=>rfl)) (zA zM zD)))
     (zC (zZ (xT (yO (zU jh ‹hr› rfl T.lJ T.lH T.lG .nil zQ (zA (zU uA ‹hr› rfl T.uz T.uy T.Bm .nil zQ (zA (pv 7) (zA (zS bj (pv 1) zF (fun _ _=>rfl)) (zA (pv 8) zD)))) (zA (pv 9) zD))))) (zE (zK xP)) zP)
     (zC (zT (i:=9) my.nd rfl ‹0› (zU J5 ‹hr› rfl T.JW T.JV T.JT .nil zQ (zA (pv 1) (zA (pv 2) (zA (zU Dc ‹hr› rfl T.Cy T.Cw T.Cv .nil zQ (zA (pv 1) (zA (pv 3) (zA (pv 5) (zA (yA (zA (zS zX (pv 2) zF (fun _ _=>rfl)) (zA (zS zX (pv 2) zF (fun _ _=>rfl)) zD))) (zA zF zD)))))) zD)))))
     (zE (zK (zU jh ‹hr› rfl T.lJ T.lH T.lG .nil zQ (zA (zU uA ‹hr› rfl T.uz T.uy T.QV T.QW zQ (zA (pv 7) (zA (zS bj (pv 1) zF (fun _ _=>rfl)) zD))) (zA (pv 9) zD)))))))))))))))))))),?_⟩
 generalize h0:L2.start _ [V.ref a]=σ0
 have h0:σ0=[some (.ref a),none,none,none,none,none,none,none,none,none,none]:=by rw [← h0];rfl
 subst h0
 refine⟨_,rfl,a,ns,0,rfl,hA,by decide,_,rfl,a,ns,1,rfl,hA,by decide,(by show 2≤sizeLine;decide),fun nl hnl=>?_⟩
 obtain⟨N,hN⟩:∃ N:Nm,N=nmF (iG ns 0):=⟨_,rfl⟩
 have s1:=zG hnl (.lst [.str (N 0),.str (N 1)])
 have E1:Ev K Pt Pu a ns nl N (upd H nl (.lst [.str (N 0),.str (N 1)])):=⟨s1.seq hA,zB,s1 _ _ hT,s1 _ _ hU⟩
 have Vi:N 0≠N 1:=fun e=>by rw [hN] at e;exact absurd (acD e) (by decide)
 rw [show nmF (iG ns 0) 0=N 0 by rw [hN],show nmF (iG ns 0) 1=N 1 by rw [hN]]
 dsimp only [bU,List.set_cons_succ,List.set_cons_zero]
 generalize upd H nl (HO.lst [.str (N 0),.str (N 1)])=H1 at s1 E1 ⊢
 clear hnl s1 hA hT hU
 have n0:iM [V.str (N 0),.str (N 1)] ((0:Nat):Int)=some (.str (N 0)):=zR rfl
 have n1:iM [V.str (N 0),.str (N 1)] ((1:Nat):Int)=some (.str (N 1)):=zR rfl
 have hc1:=aak ns 1
 refine⟨_,rfl,a,ns,1,rfl,E1.A,iG ns 1,rfl,hc1.1,hc1.2,fun x v H2 hx s2 hv=>?_⟩
 dsimp only [bU,List.set_cons_succ,List.set_cons_zero]
 have E2:=E1.same s2
 obtain⟨ka,rfl,hka⟩:=hv
 have hv:KtR H2 (.ref ka) x:=⟨ka,rfl,hka⟩
 have kq1:iM [V.str (kw x),.int x.lo,.int x.hi] ((1:Nat):Int)=some (.int x.lo):=zR rfl
 have kq2:iM [V.str (kw x),.int x.lo,.int x.hi] ((2:Nat):Int)=some (.int x.hi):=zR rfl
 have hle:=hx.le
 refine⟨_,rfl,_,rfl,_,rfl,ka,_,_,_,rfl,rfl,dH.of hka,kq1,_,rfl,ka,_,_,_,rfl,rfl,dH.of hka,kq2,a,ns,.ref ka,x,x.lo,x.hi,rfl,E2.A,hv,hx,hle,fun ta h m H4 s4 hm Vn=>?_⟩
 dsimp only [bU,List.set_cons_succ,List.set_cons_zero]
 have E4:=E2.same s4
 have hv4:=jB.same s4 hv
 refine⟨_,rfl,_,rfl,nl,_,_,_,rfl,rfl,bR.of E4.N,n0,_,rfl,_,rfl,a,ns,N,.ref ka,x,ta,h,m,rfl,E4.A,hv4,hx,Vn,hm,fun yv H5 s5 hy=>?_⟩
 dsimp only [bU,List.set_cons_succ,List.set_cons_zero]
 have hAt:=aha hx hm
 have hw:=hm.1
 obtain⟨e1,e2⟩:=auw hm
 clear hm
 generalize Va x h m=t at hAt e1 e2 hy
 subst e1 e2
 have E5:=E4.same s5
 have hv5:=jB.same s5 hv4
 have ahI:=s5 _ _ Vn
 clear Vn hv4 hv hka E4 E2 E1 s5 s4 s2
 refine⟨_,rfl,a,ns,5,rfl,E5.A,_,_,rfl,rfl,(by show (0:Int)<2;decide),rfl,?_⟩
 rw [deI]
 generalize decide (iG ns 5 % 2=1)=dn at hy ⊢
 obtain⟨y,hyd⟩:∃ y:Sy,y=(t,dn):=⟨_,rfl⟩
 rw [← hyd] at hy
 have ht:t=y.1:=by rw [hyd]
 have hd:dn=y.2:=by rw [hyd]
 subst ht hd
 clear hyd
 dsimp only [bU,List.set_cons_succ,List.set_cons_zero]
 refine⟨_,rfl,nl,_,_,_,rfl,rfl,bR.of E5.N,n0,_,rfl,.ref ka,x,rfl,hv5,hx,fun k0 H6 s6 hk0=>?_⟩
 intro a0 da0 na0 auR _
 refine⟨a0,da0,_,_,_,rfl,zB,rfl,?_⟩
 rw [yH]
 have s7:=yC na0 auR (Ji A da0 (.str (N 0)) (.ref k0) .non)
 have A0:(upd (upd H6 da0 (.own a0)) a0 (Ji A da0 (.str (N 0)) (.ref k0) .non)) a0=some (Ji A da0 (.str (N 0)) (.ref k0) .non):=zB
 generalize upd (upd H6 da0 (.own a0)) a0 (Ji A da0 (.str (N 0)) (.ref k0) .non)=H7 at s7 A0 ⊢
 have s57:=s6.trans s7
 refine⟨_,rfl,nl,_,_,_,rfl,rfl,bR.of ((E5.same s57).N),n1,?_⟩
 intro k1 dk1 nk1 auT _
 refine⟨k1,dk1,rfl,zB,rfl,?_⟩
 rw [yH]
 have s8:=yC nk1 auT (.ins A.bB dk1 [("low",.int 0),("high",.int 1)])
 have K1:(upd (upd H7 dk1 (.own k1)) k1 (.ins A.bB dk1 [("low",.int 0),("high",.int 1)])) k1=some (.ins A.bB dk1 [("low",.int 0),("high",.int 1)]):=zB
 generalize upd (upd H7 dk1 (.own k1)) k1 (HO.ins A.bB dk1 [("low",.int 0),("high",.int 1)])=H8 at s8 K1 ⊢
 refine⟨_,rfl,?_⟩
 intro a1 da1 na1 auU _
 refine⟨a1,da1,_,_,_,rfl,zB,rfl,?_⟩
 rw [yH]
 have s9:=yC na1 auU (Ji A da1 (.str (N 1)) (.ref k1) yv)
 have A1:(upd (upd H8 da1 (.own a1)) a1 (Ji A da1 (.str (N 1)) (.ref k1) yv)) a1=some (Ji A da1 (.str (N 1)) (.ref k1) yv):=zB
 generalize upd (upd H8 da1 (.own a1)) a1 (Ji A da1 (.str (N 1)) (.ref k1) yv)=H9 at s9 A1 ⊢
 have s79:=s8.trans s9
 have s59:=s57.trans s79
 have abF:Paired (RwR A N H9) [.ref a0,.ref a1] [⟨N 0,x,none⟩,⟨N 1,.yn,some y⟩]:=.cons ⟨a0,da0,k0,_,rfl,s79 _ _ A0,hk0.kq (.of (s7.trans s79)),rfl⟩ (.cons ⟨a1,da1,k1,_,rfl,A1,⟨dk1,dk1,s9 _ _ K1,fun ws e=>by cases e⟩,hy.kq (.of s59)⟩ .nil)
 have E9:=E5.same s59
 have ahL:=s59 _ _ ahI
 have hv9:=jB.same s59 hv5
 clear E5 ahI hv5 s57 s6 s7 s8 s9 s79 s59 A0 A1 K1 hk0 hy
 refine⟨(by show 2≤sizeLine;decide),fun rl hrl=>?_⟩
 have z1:=zG hrl (.lst [.ref a0,.ref a1])
 have RL:(upd H9 rl (.lst [.ref a0,.ref a1])) rl=some (.lst [.ref a0,.ref a1]):=zB
 dsimp only [bU,List.set_cons_succ,List.set_cons_zero]
 generalize upd H9 rl (HO.lst [.ref a0,.ref a1])=H10 at z1 RL ⊢
 refine⟨_,rfl,(by show 0≤sizeLine;decide),fun ew hew=>?_⟩
 have z2:=zG hew (.lst [])
 have EW:(upd H10 ew (.lst [])) ew=some (.lst []):=zB
 generalize upd H10 ew (HO.lst [])=H11 at z2 EW ⊢
 intro sh dsh nsh auW _
 have z3:=yC nsh auW (.ins A.kO dsh [])
 refine⟨sh,dsh,_,_,rl,ew,_,_,rfl,zB,z3 _ _ (z2 _ _ RL),z3 _ _ EW,fun q1 q2 H12 _ _ _ F12 hsh hq1 hq2=>⟨rfl,?_⟩⟩
 have z4:aA H11 H12:=Mi z3 nsh F12
 have YH:=(z1.trans z2).trans z4
 have SH:ShR A N H12 (.ref sh) (abA,[⟨N 0,x,none⟩,⟨N 1,.yn,some y⟩]):=⟨sh,dsh,q1,q2,_,rfl,hsh,hq1,hq2,zH abF fun _ _=>RwR.kq (.of YH)⟩
 refine⟨(by show 1≤sizeLine;decide),fun ls hls=>?_⟩
 have z5:=zG hls (.lst [.ref sh])
 have LS:(upd H12 ls (.lst [.ref sh])) ls=some (.lst [.ref sh]):=zB
 generalize upd H12 ls (HO.lst [.ref sh])=Yc at z5 LS ⊢
 refine⟨(by show 0≤sizeLine;decide),fun lt hlt=>?_⟩
 have z6:=zG hlt (.lst [])
 have LT:(upd Yc lt (.lst [])) lt=some (.lst []):=zB
 generalize upd Yc lt (HO.lst [])=H14 at z6 LT ⊢
 intro pa dpa npa auY _
 have z7:=yC npa auY (.ins A.iK dpa [])
 refine⟨pa,dpa,_,ls,lt,_,rfl,zB,z7 _ _ (z6 _ _ LS),z7 _ _ LT,fun q7 q8 H15 F15 hpa hq7 hq8=>⟨rfl,?_⟩⟩
 have z8:aA H14 H15:=Mi z7 npa F15
 have PB:=(z5.trans z6).trans z8
 have PA:PQ A N H15 pa (SS N x y):=⟨dpa,_,q7,q8,_,hpa,hq7,hq8,.cons (SH.kq (.of PB)) .nil⟩
 have E15:=(E9.same YH).same PB
 have abG:=(YH.trans PB) _ _ ahL
 have adC:=jB.same (YH.trans PB) hv9
 clear E9 ahL hv9 z1 z2 z3 z4 z5 z6 z7 z8 YH PB SH LS LT RL EW abF hsh hq1 hq2 hpa hq7 hq8
 dsimp only [bU,List.set_cons_succ,List.set_cons_zero]
 obtain⟨ka',ek,hka⟩:=adC
 cases ek
 have adC:KtR H15 (.ref ka) x:=⟨ka,rfl,hka⟩
 have m0:=Int.emod_nonneg (iG ns 6) (b:=7) (by decide)
 have m1:=Int.emod_lt_of_pos (iG ns 6) (b:=7) (by decide)
 refine⟨_,rfl,a,ns,6,rfl,E15.A,_,_,rfl,rfl,(by show (0:Int)<7;decide),?_⟩
 obtain⟨mo,hmo,aaX⟩:∃ mo:Nat,iG ns 6 % 7=(mo:Int)∧mo≤64:=⟨(iG ns 6 % 7).toNat,by omega,by omega⟩
 dsimp only [bU,List.set_cons_succ,List.set_cons_zero]
 rw [hmo]
 have bnd:∀ {mo:Nat}{out:List Nd},NF y.1 mo [(x.lo,x.hi)] [] 0 out→∀ s,Nd.lf s∈out→x.lo≤s.1∧s.1≤s.2∧s.2≤x.hi:=fun {mo out} h=>aby hw h (fun s hs=>by rw [List.mem_singleton.mp hs];exact⟨Int.le_refl _,hle,Int.le_refl _⟩) (fun s hs=>by cases hs)
 obtain⟨out,RW⟩:=TJ y.1 mo _ [(x.lo,x.hi)] [] 0 (Nat.le_refl _)
 obtain⟨s0,hs0⟩:=aaG RW (Nat.le_refl _) (Nat.le_refl _)
 obtain⟨sh0,ahN⟩:=ahH (N:=N) (y:=y) hs0
 refine⟨_,rfl,_,rfl,nl,_,_,_,rfl,rfl,bR.of E15.N,n0,_,rfl,N,pa,N 0,mo,x,y,out,rfl,PA,Vi,hAt,hx,hw,.inl rfl,aaX,RW,E15.T,E15.U,fun p1 l1 zs1 H16 s16 hp1 _ hl1 hz1 ht1=>?_⟩
 have tr1:=rC hp1 hl1 hz1 ht1
 rw [show Yz y (mX N y (N 0)) out=‹"row"› by unfold Yz;rw [ahN],show tbL N x y (mX N y (N 0)) out=[] by unfold tbL;rw [ahN];rfl] at tr1
 refine⟨(by show 0≤sizeLine;decide),fun el hel=>?_⟩
 have c1:=zG hel (.lst [])
 refine⟨(by show 2≤sizeLine;decide),fun dp hdp=>?_⟩
 have c2:=zG hdp (.tup [.str ‹"row"›,.ref el])
 refine⟨.ref p1,.ref dp,_,5,rfl,by decide,mH.same (c1.trans c2) tr1,rC zB (c2 _ _ zB) (Nat.zero_le _) .nil,fun H17 s17=>⟨_,rfl,aF ?_⟩⟩
 have S17:=(s16.trans (c1.trans c2)).trans s17
 have E17:=E15.same S17
 have ahP:=PA.kq (.of S17)
 have abH:=S17 _ _ abG
 have TY:=S17 _ _ hka
 clear c1 c2 s16 s17 S17 tr1 ht1 hp1 hl1 PA E15 abG hka adC
 refine⟨_,rfl,_,rfl,_,rfl,_,rfl,_,rfl,_,rfl,ka,_,_,_,rfl,rfl,dH.of TY,kq1,_,rfl,ka,_,_,_,rfl,rfl,dH.of TY,kq2,(by show 2≤sizeLine;decide),fun st hst=>?_⟩
 have d1:=zG hst (.tup [.int x.lo,.int x.hi])
 have ST:(upd H17 st (.tup [.int x.lo,.int x.hi])) st=some (.tup [.int x.lo,.int x.hi]):=zB
 generalize upd H17 st (HO.tup [.int x.lo,.int x.hi])=H18 at d1 ST ⊢
 refine⟨_,rfl,nl,N,ta,y.1,y.2,st,(x.lo,x.hi),mo,out,rfl,(E17.same d1).N,d1 _ _ abH,hw,ST,hle,aaX,RW,fun dq H19 s19 hdq=>?_⟩
 obtain⟨dq',dx,e,au1,au2,au3,_⟩:=hdq
 cases e
 have S19:=d1.trans s19
 have E19:=E17.same S19
 refine⟨nl,N,.ref ka,x,y,dq,dx,out,_,rfl,E19.N,⟨ka,rfl,S19 _ _ TY⟩,hx,Vi,bnd RW,au1,au2,au3,fun p2 l2 zs2 H20 s20 hp2 hl2 hz2 Lz=>?_⟩
 dsimp only [bU,List.set_cons_succ,List.set_cons_zero]
 have S20:=S19.trans s20
 have E20:=E17.same S20
 have ahR:=ahP.kq (.of S20)
 have trD:=rC hp2 hl2 hz2 Lz
 refine⟨_,rfl,_,rfl,nl,_,_,_,rfl,rfl,bR.of E20.N,n1,_,rfl,N,pa,N 1,mo,x,y,out,rfl,ahR,Vi,hAt,hx,hw,.inr rfl,aaX,RW,E20.T,E20.U,fun p3 l3 zs3 H21 s21 hp3 nl3 hl3 hz3 ht3=>?_⟩
 dsimp only [bU,List.set_cons_succ,List.set_cons_zero]
 refine⟨_,rfl,_,rfl,.ref p3,.ref p2,_,5,rfl,by decide,rC hp3 hl3 hz3 ht3,mH.same s21 trD,fun H22 s22=>⟨_,rfl,aF ?_⟩⟩
 have fi:iM [V.str (Yz y (mX N y (N 1)) out),.ref l3] ((1:Nat):Int)=some (.ref l3):=zR rfl
 refine⟨_,rfl,p3,_,_,_,rfl,rfl,dH.of (s22 _ _ hp3),fi,.inl ⟨rfl,_,bR.of (s22 _ _ hl3)⟩,l3,_,_,rfl,rfl,s22 _ _ hl3,yK (m:=2000) (by omega),?_⟩
 have S23:aA H20 (upd H22 l3 (.lst (zs3++[.str ‹"more"›]))):=qt (s21.trans s22) nl3 _
 generalize upd H22 l3 (HO.lst (zs3++[.str ‹"more"›]))=H23 at S23 ⊢
 have E23:=E20.same S23
 have au6:=ahR.kq (.of S23)
 refine⟨_,rfl,_,rfl,nl,_,_,_,rfl,rfl,bR.of E23.N,n1,_,rfl,N,pa,N 1,mo,x,y,out,rfl,au6,Vi,hAt,hx,hw,.inr rfl,aaX,RW,E23.T,E23.U,fun p4 l4 zs4 H24 s24 hp4 _ hl4 hz4 ht4=>?_⟩
 refine⟨_,rfl,.ref p4,.ref p2,_,5,rfl,by decide,rC hp4 hl4 hz4 ht4,mH.same (S23.trans s24) trD,fun H25 s25=>⟨_,rfl,aF ?_⟩⟩
 have S25:=(S20.trans S23).trans (s24.trans s25)
 have E25:=E17.same S25
 have au7:=ahP.kq (.of S25)
 have ahT:=S25 _ _ abH
 have YJ:=S25 _ _ TY
 obtain⟨adD,adE⟩:=TJ y.1 64 _ [(x.lo,x.hi)] [] 0 (Nat.le_refl _)
 refine⟨_,rfl,_,rfl,_,rfl,_,rfl,_,rfl,_,rfl,ka,_,_,_,rfl,rfl,dH.of YJ,kq1,_,rfl,ka,_,_,_,rfl,rfl,dH.of YJ,kq2,(by show 2≤sizeLine;decide),fun st2 hst2=>?_⟩
 have f1:=zG hst2 (.tup [.int x.lo,.int x.hi])
 have ST2:(upd H25 st2 (.tup [.int x.lo,.int x.hi])) st2=some (.tup [.int x.lo,.int x.hi]):=zB
 generalize upd H25 st2 (HO.tup [.int x.lo,.int x.hi])=H26 at f1 ST2 ⊢
 refine⟨nl,N,ta,y.1,y.2,st2,(x.lo,x.hi),64,adD,rfl,(E25.same f1).N,f1 _ _ ahT,hw,ST2,hle,Nat.le_refl _,adE,fun dr H27 s27 hdr=>?_⟩
 obtain⟨dr',XH,e,au8,au9,ava,_⟩:=hdr
 cases e
 have S27:=f1.trans s27
 have E27:=E25.same S27
 refine⟨nl,N,.ref ka,x,y,dr,XH,adD,_,rfl,E27.N,⟨ka,rfl,S27 _ _ YJ⟩,hx,Vi,bnd adE,au8,au9,ava,fun p5 l5 zs5 H28 s28 hp5 hl5 hz5 ht5=>?_⟩
 dsimp only [bU,List.set_cons_succ,List.set_cons_zero]
 have S28:=S27.trans s28
 have E28:=E25.same S28
 refine⟨_,rfl,_,rfl,nl,_,_,_,rfl,rfl,bR.of E28.N,n1,N,pa,N 1,64,x,y,adD,rfl,au7.kq (.of S28),Vi,hAt,hx,hw,.inr rfl,Nat.le_refl _,adE,E28.T,E28.U,fun p6 l6 zs6 H29 s29 hp6 _ hl6 hz6 ht6=>?_⟩
 exact⟨_,rfl,.ref p6,.ref p5,_,5,rfl,by decide,rC hp6 hl6 hz6 ht6,mH.same s29 (rC hp5 hl5 hz5 ht5),fun H' _=>q H'⟩
end
end iy
set_option maxHeartbeats 4000000
namespace iy
open PySem L2
theorem Su {us:List Value}{n:Nat} (h:us.length=n+1):∃ a r,us=a::r∧r.length=n:=by
 cases us with
 | nil=>cases h
 | cons a r=>exact⟨a,r,rfl,Nat.succ.inj h⟩
theorem el0 {us:List Value} (h:us.length=0):us=[]:=List.eq_nil_of_length_eq_zero h
@[elab_as_elim] theorem Zd {motive:List Value→Prop} (us:List Value) (hl:us.length=1) (h:∀ a,motive [a]):motive us:=by
 obtain⟨a,r0,e0,h0⟩:=Su hl
 rw [e0,el0 h0]
 exact h a
@[elab_as_elim] theorem uB {motive:List Value→Prop} (us:List Value) (hl:us.length=2) (h:∀ a b,motive [a,b]):motive us:=by
 obtain⟨a,r0,e0,h0⟩:=Su hl
 obtain⟨b,r1,e1,h1⟩:=Su h0
 rw [e0,e1,el0 h1]
 exact h a b
@[elab_as_elim] theorem J6 {motive:List Value→Prop} (us:List Value) (hl:us.length=3) (h:∀ a b c,motive [a,b,c]):motive us:=by
 obtain⟨a,r0,e0,h0⟩:=Su hl
 obtain⟨b,r1,e1,h1⟩:=Su h0
 obtain⟨c,r2,e2,h2⟩:=Su h1
 rw [e0,e1,e2,el0 h2]
 exact h a b c
@[elab_as_elim] theorem Vp {motive:List Value→Prop} (us:List Value) (hl:us.length=4) (h:∀ a b c d,motive [a,b,c,d]):motive us:=by
 obtain⟨a,r0,e0,h0⟩:=Su hl
 obtain⟨b,r1,e1,h1⟩:=Su h0
 obtain⟨c,r2,e2,h2⟩:=Su h1
 obtain⟨d,r3,e3,h3⟩:=Su h2
 rw [e0,e1,e2,e3,el0 h3]
 exact h a b c d
@[elab_as_elim] theorem el5 {motive:List Value→Prop} (us:List Value) (hl:us.length=5) (h:∀ a b c d e,motive [a,b,c,d,e]):motive us:=by
 obtain⟨a,r0,e0,h0⟩:=Su hl
 obtain⟨b,r1,e1,h1⟩:=Su h0
 obtain⟨c,r2,e2,h2⟩:=Su h1
 obtain⟨d,r3,e3,h3⟩:=Su h2
 obtain⟨e,r4,e4,h4⟩:=Su h3
 rw [e0,e1,e2,e3,e4,el0 h4]
 exact h a b c d e
theorem adF {K:W.Frag}{h:Heap}{mg:Str→Option Value} (X:K.In h) (G:h.Ns mainGlobals mg)
{f0 f1 f2 f3 f4 f5 f6 f7 f8 f9 f10 f11 f12 adG f13 f14 f15 adH f16 f17 f18 f19 f20 f21 f22 f23 f24 f25 f26 f27 f28 f29 f30 f31 Ze f33 adI f34 f35 f36 f37 f38 f39 f40 f41 f42 f43 f44 f45 f46 f47 f48 f49 f50 f51 f52 f53 f54 f55 f56 f57 f58 f59 adJ f60 f61 f62 f63 adK f64 f65 f66 f67 f68 f69 f70 f71 f72 f73 f74 f75 f76 f77 ga0:Addr}{od0 an0 od1 an1 od2 an2 od3 an3 od4 an4 od5 an5 od6 an6 od7 an7 od8 an8 od9 an9 avd ahX ave ahY avf ahZ avh avi ah0 avj ah1 avk ah2 avl avm ah3 avn ah4 avo ah5 avp ah6 avq ah7 avr ah8 avs ah9 avt aia avu aib avv aic avw aid avx aie avy aif avz aih avA aii avB aij avC aik avD ail avE avF aim avG ain avH aio avI aip avJ aiq avK air avL ais avM ait avN aiu avO aiv avP aiw avQ aix avR aiy avS aiz avT aiA avU aiB avV aiC avW aiD avX aiE avY aiF avZ aiG av0 aiH av1 aiI av2 aiJ av3 aiK av4 aiL av5 av6 aiM av7 aiN av8 aiO av9 aiP awa awb aiQ awc aiR awd aiS awe aiT awf aiU awg aiV awh aiW awi aiX awj aiY awk aiZ awl ai0 awm ai1 awn ai2 awo ai3 gd0:Option Addr}{sl0 sl1 sl2 sl3 sl4 sl5 sl6 sl7 sl8 sl9 awp awq awr aws awt awu awv aww awx awy awz awA awB awC awD awE awF awG awH awI awJ awK awL awM awN awO awP awQ awR awS awT awU awV awW awX awY awZ aw0 aw1 aw2 aw3 aw4 aw5 aw6 aw7 aw8 aw9 axa axb axc axd axe axf axg axh axi axj axk axl axm axn axo axp axq axr axs axt axu axv axw axx axy axz gs0:Array (Option Value)}{oc0 kV0 dc0 pm0 cd0 ct0 oc1 kV1 dc1 pm1 cd1 ct1 oc2 kV2 dc2 pm2 cd2 ct2 oc3 kV3 dc3 pm3 cd3 ct3 oc4 kV4 dc4 pm4 cd4 ct4 oc5 kV5 dc5 pm5 cd5 ct5 oc6 kV6 dc6 pm6 cd6 ct6 oc7 kV7 dc7 pm7 cd7 ct7 oc8 kV8 dc8 pm8 cd8 ct8 oc9 kV9 dc9 pm9 cd9 ct9 axK ai4 ai5 ai6 adL ai7 axL ai8 ai9 aja adM ajb axM ajc ajd aje adN ajf axN ajg ajh aji adO ajj axO ajk ajl ajm adP ajn axP ajo ajp ajq adQ ajr axQ ajs ajt aju adR ajv axR ajw ajx ajy adS ajz axS ajA ajB ajC adT ajD axT ajE ajF ajG adU ajH axU ajI ajJ ajK adV ajL axV ajM ajN ajO adW ajP axW ajQ ajR ajS adX ajT axX ajU ajV ajW adY ajX axY ajY ajZ aj0 adZ aj1 axZ aj2 aj3 aj4 ad0 aj5 ax0 aj6 aj7 aj8 ad1 aj9 ax1 aka akb akc ad2 akd ax2 ake akf akg ad3 akh ax3 aki akj akk ad4 akl ax4 akm akn ako ad5 akp ax5 akq akr aks ad6 akt ax6 aku akv akx ad7 aky ax7 akz akA akB ad8 akC ax8 akD akE akF ad9 akG ax9 akH akI akJ aea akK aya akL akM akN aeb akO ayb akP akQ akR aec akS ayc akT akU akV aed akW ayd akX akY akZ aee ak0 aye ak1 ak2 ak3 aef ak4 ayf ak5 ak6 ak7 aeg ak8 ayg ak9 ala alb aeh alc ayh ald ale alf aei alg ayi alh ali alj aej alk ayj alm aln alo aek alp ayk alq alr als ael alu ayl alv alw alx aem aly aym alz alA alB aen alC ayn alD alE alF aeo alG ayo alH alI alJ aep alK ayp alL alM alN aeq alO ayq alP alQ alR aer alS ayr alT alU alV aaY alW ays alX alY alZ aes al0 ayt al1 al2 al3 aet al4 ayu al5 al6 al7 aeu al8 ayv al9 ama amb aev amc ayw amd ame amf aew amg ayx amh ami amj aex amk ayy aml amm amn aey amo ayz amq amr ams aez amt ayA amu amv amw aeA amx ayB amy amz amA aaZ amB ayC amC amD amE aeB amF ayD amG amH amI aeC amJ ayE amK amL amM aeD amN ayF amO amP amQ aeE amR ayG amS amT amU aeF amV ayH amW amX amY aeG amZ ayI am0 am1 am2 aeH am3 ayJ am4 am5 am6 aeI am7 ayK am8 am9 ana aeJ anb ayL anc ane anf aeK ang ayM anh ani anj aeL ank ayN anl anm ano aeM anp ayO anq anr ant aeN anu ayP anv anw anx aeO anz go0:Value}{ayQ ayR ayS ayT ayU gn0:Nat}{YK YL YM:Tok}{gi0:Array Value}
 {ga1:Addr}{go1:Value}{gd1:Option Addr}{gn1:Nat}{ge1:Array DictEntry}{gs1:Array (Option Value)}
{oJ aJ bh gj lL BX d7 cL jF gR cU J7 HW gm cV bT mc mP nc nP:Addr}{anA YQ aa0 YS YT:ClassData}{mt nt:Value}{mod nod:Option Addr}{mvs nvs:Array Value}{msl nsl:Array (Option Value)}
 (h9g:W.nsIn K mainGlobals "Ask" = some (some (.ref oJ)))
 (h9h:W.nsIn K mainGlobals "ByBox" = some (some (.ref aJ)))
 (h9i:W.nsIn K mainGlobals "Compare" = some (some (.ref bh)))
 (h9j:W.nsIn K mainGlobals "Going" = some (some (.ref gj)))
 (h9k:W.nsIn K mainGlobals "Is" = some (some (.ref lL)))
 (h9l:W.nsIn K mainGlobals "Kind" = some (some (.ref BX)))
 (h9m:W.nsIn K mainGlobals "Money" = some (some (.ref d7)))
 (h9n:W.nsIn K mainGlobals "Names" = some (some (.ref cL)))
 (h9o:W.nsIn K mainGlobals "Not" = some (some (.ref jF)))
 (h9p:W.nsIn K mainGlobals "Paper" = some (some (.ref gR)))
 (h9q:W.nsIn K mainGlobals "Pick" = some (some (.ref cU)))
 (h9r:W.nsIn K mainGlobals "Row" = some (some (.ref J7)))
 (h9s:W.nsIn K mainGlobals "Saying" = some (some (.ref HW)))
 (h9t:W.nsIn K mainGlobals "Sheet" = some (some (.ref gm)))
 (h9u:W.nsIn K mainGlobals "Whole" = some (some (.ref cV)))
 (h9v:W.nsIn K mainGlobals "YesNo" = some (some (.ref bT)))
 (h00:W.findIn K (.ref BX) "__init__" = some (some (.ref f0)))
 (h01:K.lookup f0=some ⟨oc0,od0,.func (W.fnOf "__init__" "Kind.__init__" (ak bW) (aj bW) (aa bW) .none kV0 dc0 pm0 an0 cd0 ct0),sl0⟩)
 (h02:W.codeIn K cd0 "Kind.__init__" = true)
 (h03:W.keepIn K (.ref f0)=true)
 (h04:W.findIn K (.ref bT) "__init__" = some (some (.ref f1)))
 (h05:K.lookup f1=some ⟨oc1,od1,.func (W.fnOf "__init__" "YesNo.__init__" (ak bC) (aj bC) (aa bC) .none kV1 dc1 pm1 an1 cd1 ct1),sl1⟩)
 (h06:W.codeIn K cd1 "YesNo.__init__" = true)
 (h07:W.keepIn K (.ref f1)=true)
 (h08:W.findIn K (.ref bT) "fits" = some (some (.ref f2)))
 (h09:K.lookup f2=some ⟨oc2,od2,.func (W.fnOf "fits" "YesNo.fits" (ak cu) (aj cu) (aa cu) .none kV2 dc2 pm2 an2 cd2 ct2),sl2⟩)
 (h0a:W.codeIn K cd2 "YesNo.fits" = true)
 (h0b:W.keepIn K (.ref f2)=true)
 (h0c:W.findIn K (.ref bT) "answer_of" = some (some (.ref f3)))
 (h0d:K.lookup f3=some ⟨oc3,od3,.func (W.fnOf "answer_of" "YesNo.answer_of" (ak aQ) (aj aQ) (aa aQ) .none kV3 dc3 pm3 an3 cd3 ct3),sl3⟩)
 (h0e:W.codeIn K cd3 "YesNo.answer_of" = true)
 (h0f:W.keepIn K (.ref f3)=true)
 (h0g:W.findIn K (.ref bT) "rank" = some (some (.ref f4)))
 (h0h:K.lookup f4=some ⟨oc4,od4,.func (W.fnOf "rank" "YesNo.rank" (ak cz) (aj cz) (aa cz) .none kV4 dc4 pm4 an4 cd4 ct4),sl4⟩)
 (h0i:W.codeIn K cd4 "YesNo.rank" = true)
 (h0j:W.keepIn K (.ref f4)=true)
 (h0k:W.findIn K (.ref bT) "sample" = some (some (.ref f5)))
 (h0l:K.lookup f5=some ⟨oc5,od5,.func (W.fnOf "sample" "YesNo.sample" (ak bD) (aj bD) (aa bD) .none kV5 dc5 pm5 an5 cd5 ct5),sl5⟩)
 (h0m:W.codeIn K cd5 "YesNo.sample" = true)
 (h0n:W.keepIn K (.ref f5)=true)
 (h0o:W.findIn K (.ref cV) "sample" = some (some (.ref f6)))
 (h0p:K.lookup f6=some ⟨oc6,od6,.func (W.fnOf "sample" "Whole.sample" (ak bG) (aj bG) (aa bG) .none kV6 dc6 pm6 an6 cd6 ct6),sl6⟩)
 (h0q:W.codeIn K cd6 "Whole.sample" = true)
 (h0r:W.keepIn K (.ref f6)=true)
 (h0s:W.findIn K (.ref cU) "__init__" = some (some (.ref f7)))
 (h0t:K.lookup f7=some ⟨oc7,od7,.func (W.fnOf "__init__" "Pick.__init__" (ak bY) (aj bY) (aa bY) .none kV7 dc7 pm7 an7 cd7 ct7),sl7⟩)
 (h0u:W.codeIn K cd7 "Pick.__init__" = true)
 (h0v:W.keepIn K (.ref f7)=true)
 (h0w:W.findIn K (.ref cU) "fits" = some (some (.ref f8)))
 (h0x:K.lookup f8=some ⟨oc8,od8,.func (W.fnOf "fits" "Pick.fits" (ak cN) (aj cN) (aa cN) .none kV8 dc8 pm8 an8 cd8 ct8),sl8⟩)
 (h0y:W.codeIn K cd8 "Pick.fits" = true)
 (h0z:W.keepIn K (.ref f8)=true)
 (h10:W.findIn K (.ref cU) "answer_of" = some (some (.ref f9)))
 (h11:K.lookup f9=some ⟨oc9,od9,.func (W.fnOf "answer_of" "Pick.answer_of" (ak aX) (aj aX) (aa aX) .none kV9 dc9 pm9 an9 cd9 ct9),sl9⟩)
 (h12:W.codeIn K cd9 "Pick.answer_of" = true)
 (h13:W.keepIn K (.ref f9)=true)
 (h14:W.findIn K (.ref cU) "rank" = some (some (.ref f10)))
 (h15:K.lookup f10=some ⟨axK,avd,.func (W.fnOf "rank" "Pick.rank" (ak cO) (aj cO) (aa cO) .none ai4 ai5 ai6 ahX adL ai7),awp⟩)
 (h16:W.codeIn K adL "Pick.rank" = true)
 (h17:W.keepIn K (.ref f10)=true)
 (h18:W.findIn K (.ref cU) "sample" = some (some (.ref f11)))
 (h19:K.lookup f11=some ⟨axL,ave,.func (W.fnOf "sample" "Pick.sample" (ak bZ) (aj bZ) (aa bZ) .none ai8 ai9 aja ahY adM ajb),awq⟩)
 (h1a:W.codeIn K adM "Pick.sample" = true)
 (h1b:W.keepIn K (.ref f11)=true)
 (h1c:W.findIn K (.ref cL) "__init__" = some (some (.ref f12)))
 (h1d:K.lookup f12=some ⟨axM,avf,.func (W.fnOf "__init__" "Names.__init__" (ak bH) (aj bH) (aa bH) (.ref adG) ajc ajd aje ahZ adN ajf),awr⟩)
 (h1e:W.codeIn K adN "Names.__init__" = true)
 (h1f:W.keepIn K (.ref f12)=true)
 (h1g:K.lookup adG=some ⟨.type "tuple",avh,.seq ([(.int 3 YK)]:List Value).toArray ayQ,aws⟩)
 (h1h:W.findIn K (.ref cL) "sample" = some (some (.ref f13)))
 (h1i:K.lookup f13=some ⟨axN,avi,.func (W.fnOf "sample" "Names.sample" (ak bI) (aj bI) (aa bI) .none ajg ajh aji ah0 adO ajj),awt⟩)
 (h1j:W.codeIn K adO "Names.sample" = true)
 (h1k:W.keepIn K (.ref f13)=true)
 (h1l:W.findIn K (.ref J7) "__init__" = some (some (.ref f14)))
 (h1m:K.lookup f14=some ⟨axO,avj,.func (W.fnOf "__init__" "Row.__init__" (ak cA) (aj cA) (aa cA) .none ajk ajl ajm ah1 adP ajn),awu⟩)
 (h1n:W.codeIn K adP "Row.__init__" = true)
 (h1o:W.keepIn K (.ref f14)=true)
 (h1p:W.findIn K (.ref oJ) "__init__" = some (some (.ref f15)))
 (h1q:K.lookup f15=some ⟨axP,avk,.func (W.fnOf "__init__" "Ask.__init__" (ak bV) (aj bV) (aa bV) (.ref adH) ajo ajp ajq ah2 adQ ajr),awv⟩)
 (h1r:W.codeIn K adQ "Ask.__init__" = true)
 (h1s:W.keepIn K (.ref f15)=true)
 (h1t:K.lookup adH=some ⟨.type "tuple",avl,.seq ([.none]:List Value).toArray ayR,aww⟩)
 (h1u:W.findIn K (.ref gm) "__init__" = some (some (.ref f16)))
 (h1v:K.lookup f16=some ⟨axQ,avm,.func (W.fnOf "__init__" "Sheet.__init__" (ak bJ) (aj bJ) (aa bJ) .none ajs ajt aju ah3 adR ajv),awx⟩)
 (h1w:W.codeIn K adR "Sheet.__init__" = true)
 (h1x:W.keepIn K (.ref f16)=true)
 (h1y:W.findIn K (.ref gR) "__init__" = some (some (.ref f17)))
 (h1z:K.lookup f17=some ⟨axR,avn,.func (W.fnOf "__init__" "Paper.__init__" (ak bK) (aj bK) (aa bK) .none ajw ajx ajy ah4 adS ajz),awy⟩)
 (h20:W.codeIn K adS "Paper.__init__" = true)
 (h21:W.keepIn K (.ref f17)=true)
 (h22:W.nsIn K mainGlobals "kinds_of" = some (some (.ref f18)))
 (h23:K.lookup f18=some ⟨axS,avo,.func (W.fnOf "kinds_of" "kinds_of" (ak eG) (aj eG) (aa eG) .none ajA ajB ajC ah5 adT ajD),awz⟩)
 (h24:W.codeIn K adT "kinds_of" = true)
 (h25:W.keepIn K (.ref f18)=true)
 (h26:W.nsIn K mainGlobals "eaches_of" = some (some (.ref f19)))
 (h27:K.lookup f19=some ⟨axT,avp,.func (W.fnOf "eaches_of" "eaches_of" (ak dN) (aj dN) (aa dN) .none ajE ajF ajG ah6 adU ajH),awA⟩)
 (h28:W.codeIn K adU "eaches_of" = true)
 (h29:W.keepIn K (.ref f19)=true)
 (h2a:W.nsIn K mainGlobals "all_together" = some (some (.ref f20)))
 (h2b:K.lookup f20=some ⟨axU,avq,.func (W.fnOf "all_together" "all_together" (ak cB) (aj cB) (aa cB) .none ajI ajJ ajK ah7 adV ajL),awB⟩)
 (h2c:W.codeIn K adV "all_together" = true)
 (h2d:W.keepIn K (.ref f20)=true)
 (h2e:W.findIn K (.ref gj) "__init__" = some (some (.ref f21)))
 (h2f:K.lookup f21=some ⟨axV,avr,.func (W.fnOf "__init__" "Going.__init__" (ak bL) (aj bL) (aa bL) .none ajM ajN ajO ah8 adW ajP),awC⟩)
 (h2g:W.codeIn K adW "Going.__init__" = true)
 (h2h:W.keepIn K (.ref f21)=true)
 (h2i:W.findIn K (.ref gj) "note" = some (some (.ref f22)))
 (h2j:K.lookup f22=some ⟨axW,avs,.func (W.fnOf "note" "Going.note" (ak cD) (aj cD) (aa cD) .none ajQ ajR ajS ah9 adX ajT),awD⟩)
 (h2k:W.codeIn K adX "Going.note" = true)
 (h2l:W.keepIn K (.ref f22)=true)
 (h2m:W.findIn K (.ref gj) "own_thing" = some (some (.ref f23)))
 (h2n:K.lookup f23=some ⟨axX,avt,.func (W.fnOf "own_thing" "Going.own_thing" (ak aR) (aj aR) (aa aR) .none ajU ajV ajW aia adY ajX),awE⟩)
 (h2o:W.codeIn K adY "Going.own_thing" = true)
 (h2p:W.keepIn K (.ref f23)=true)
 (h2q:W.findIn K (.ref gj) "known_of" = some (some (.ref f24)))
 (h2r:K.lookup f24=some ⟨axY,avu,.func (W.fnOf "known_of" "Going.known_of" (ak aY) (aj aY) (aa aY) .none ajY ajZ aj0 aib adZ aj1),awF⟩)
 (h2s:W.codeIn K adZ "Going.known_of" = true)
 (h2t:W.keepIn K (.ref f24)=true)
 (h2u:W.findIn K (.ref gj) "stop_with" = some (some (.ref f25)))
 (h2v:K.lookup f25=some ⟨axZ,avv,.func (W.fnOf "stop_with" "Going.stop_with" (ak aU) (aj aU) (aa aU) .none aj2 aj3 aj4 aic ad0 aj5),awG⟩)
 (h2w:W.codeIn K ad0 "Going.stop_with" = true)
 (h2x:W.keepIn K (.ref f25)=true)
 (h2y:W.findIn K (.ref gj) "go_through" = some (some (.ref f26)))
 (h2z:K.lookup f26=some ⟨ax0,avw,.func (W.fnOf "go_through" "Going.go_through" (ak aN) (aj aN) (aa aN) .none aj6 aj7 aj8 aid ad1 aj9),awH⟩)
 (h30:W.codeIn K ad1 "Going.go_through" = true)
 (h31:W.keepIn K (.ref f26)=true)
 (h32:W.findIn K (.ref gj) "targets_of" = some (some (.ref f27)))
 (h33:K.lookup f27=some ⟨ax1,avx,.func (W.fnOf "targets_of" "Going.targets_of" (ak aO) (aj aO) (aa aO) .none aka akb akc aie ad2 akd),awI⟩)
 (h34:W.codeIn K ad2 "Going.targets_of" = true)
 (h35:W.keepIn K (.ref f27)=true)
 (h36:W.findIn K (.ref gj) "leave" = some (some (.ref f28)))
 (h37:K.lookup f28=some ⟨ax2,avy,.func (W.fnOf "leave" "Going.leave" (ak b7) (aj b7) (aa b7) .none ake akf akg aif ad3 akh),awJ⟩)
 (h38:W.codeIn K ad3 "Going.leave" = true)
 (h39:W.keepIn K (.ref f28)=true)
 (h3a:W.findIn K (.ref gj) "go" = some (some (.ref f29)))
 (h3b:K.lookup f29=some ⟨ax3,avz,.func (W.fnOf "go" "Going.go" (ak du) (aj du) (aa du) .none aki akj akk aih ad4 akl),awK⟩)
 (h3c:W.codeIn K ad4 "Going.go" = true)
 (h3d:W.keepIn K (.ref f29)=true)
 (h3e:W.nsIn K mainGlobals "compares" = some (some (.ref f30)))
 (h3f:K.lookup f30=some ⟨ax4,avA,.func (W.fnOf "compares" "compares" (ak eN) (aj eN) (aa eN) .none akm akn ako aii ad5 akp),awL⟩)
 (h3g:W.codeIn K ad5 "compares" = true)
 (h3h:W.keepIn K (.ref f30)=true)
 (h3i:W.nsIn K mainGlobals "surely_compares" = some (some (.ref f31)))
 (h3j:K.lookup f31=some ⟨ax5,avB,.func (W.fnOf "surely_compares" "surely_compares" (ak bu) (aj bu) (aa bu) .none akq akr aks aij ad6 akt),awM⟩)
 (h3k:W.codeIn K ad6 "surely_compares" = true)
 (h3l:W.keepIn K (.ref f31)=true)
 (h3m:W.findIn K (.ref HW) "first_open" = some (some (.ref Ze)))
 (h3n:K.lookup Ze=some ⟨ax6,avC,.func (W.fnOf "first_open" "Saying.first_open" (ak aK) (aj aK) (aa aK) .none aku akv akx aik ad7 aky),awN⟩)
 (h3o:W.codeIn K ad7 "Saying.first_open" = true)
 (h3p:W.keepIn K (.ref Ze)=true)
 (h3q:W.findIn K (.ref lL) "__init__" = some (some (.ref f33)))
 (h3r:K.lookup f33=some ⟨ax7,avD,.func (W.fnOf "__init__" "Is.__init__" (ak cF) (aj cF) (aa cF) (.ref adI) akz akA akB ail ad8 akC),awO⟩)
 (h3s:W.codeIn K ad8 "Is.__init__" = true)
 (h3t:W.keepIn K (.ref f33)=true)
 (h3u:K.lookup adI=some ⟨.type "tuple",avE,.seq ([.none]:List Value).toArray ayS,awP⟩)
 (h3v:W.findIn K (.ref lL) "atoms" = some (some (.ref f34)))
 (h3w:K.lookup f34=some ⟨ax8,avF,.func (W.fnOf "atoms" "Is.atoms" (ak dw) (aj dw) (aa dw) .none akD akE akF aim ad9 akG),awQ⟩)
 (h3x:W.codeIn K ad9 "Is.atoms" = true)
 (h3y:W.keepIn K (.ref f34)=true)
 (h3z:W.findIn K (.ref lL) "settled" = some (some (.ref f35)))
 (h40:K.lookup f35=some ⟨ax9,avG,.func (W.fnOf "settled" "Is.settled" (ak cG) (aj cG) (aa cG) .none akH akI akJ ain aea akK),awR⟩)
 (h41:W.codeIn K aea "Is.settled" = true)
 (h42:W.keepIn K (.ref f35)=true)
 (h43:W.findIn K (.ref lL) "sure" = some (some (.ref f36)))
 (h44:K.lookup f36=some ⟨aya,avH,.func (W.fnOf "sure" "Is.sure" (ak dO) (aj dO) (aa dO) .none akL akM akN aio aeb akO),awS⟩)
 (h45:W.codeIn K aeb "Is.sure" = true)
 (h46:W.keepIn K (.ref f36)=true)
 (h47:W.findIn K (.ref bh) "__init__" = some (some (.ref f37)))
 (h48:K.lookup f37=some ⟨ayb,avI,.func (W.fnOf "__init__" "Compare.__init__" (ak aZ) (aj aZ) (aa aZ) .none akP akQ akR aip aec akS),awT⟩)
 (h49:W.codeIn K aec "Compare.__init__" = true)
 (h4a:W.keepIn K (.ref f37)=true)
 (h4b:W.findIn K (.ref bh) "atoms" = some (some (.ref f38)))
 (h4c:K.lookup f38=some ⟨ayc,avJ,.func (W.fnOf "atoms" "Compare.atoms" (ak bw) (aj bw) (aa bw) .none akT akU akV aiq aed akW),awU⟩)
 (h4d:W.codeIn K aed "Compare.atoms" = true)
 (h4e:W.keepIn K (.ref f38)=true)
 (h4f:W.findIn K (.ref bh) "settled" = some (some (.ref f39)))
 (h4g:K.lookup f39=some ⟨ayd,avK,.func (W.fnOf "settled" "Compare.settled" (ak aV) (aj aV) (aa aV) .none akX akY akZ air aee ak0),awV⟩)
 (h4h:W.codeIn K aee "Compare.settled" = true)
 (h4i:W.keepIn K (.ref f39)=true)
 (h4j:W.findIn K (.ref bh) "sure" = some (some (.ref f40)))
 (h4k:K.lookup f40=some ⟨aye,avL,.func (W.fnOf "sure" "Compare.sure" (ak bM) (aj bM) (aa bM) .none ak1 ak2 ak3 ais aef ak4),awW⟩)
 (h4l:W.codeIn K aef "Compare.sure" = true)
 (h4m:W.keepIn K (.ref f40)=true)
 (h4n:W.findIn K (.ref jF) "__init__" = some (some (.ref f41)))
 (h4o:K.lookup f41=some ⟨ayf,avM,.func (W.fnOf "__init__" "Not.__init__" (ak cH) (aj cH) (aa cH) .none ak5 ak6 ak7 ait aeg ak8),awX⟩)
 (h4p:W.codeIn K aeg "Not.__init__" = true)
 (h4q:W.keepIn K (.ref f41)=true)
 (h4r:W.findIn K (.ref jF) "atoms" = some (some (.ref f42)))
 (h4s:K.lookup f42=some ⟨ayg,avN,.func (W.fnOf "atoms" "Not.atoms" (ak cQ) (aj cQ) (aa cQ) .none ak9 ala alb aiu aeh alc),awY⟩)
 (h4t:W.codeIn K aeh "Not.atoms" = true)
 (h4u:W.keepIn K (.ref f42)=true)
 (h4v:W.findIn K (.ref jF) "settled" = some (some (.ref f43)))
 (h4w:K.lookup f43=some ⟨ayh,avO,.func (W.fnOf "settled" "Not.settled" (ak b8) (aj b8) (aa b8) .none ald ale alf aiv aei alg),awZ⟩)
 (h4x:W.codeIn K aei "Not.settled" = true)
 (h4y:W.keepIn K (.ref f43)=true)
 (h4z:W.findIn K (.ref jF) "sure" = some (some (.ref f44)))
 (h50:K.lookup f44=some ⟨ayi,avP,.func (W.fnOf "sure" "Not.sure" (ak dB) (aj dB) (aa dB) .none alh ali alj aiw aej alk),aw0⟩)
 (h51:W.codeIn K aej "Not.sure" = true)
 (h52:W.keepIn K (.ref f44)=true)
 (h53:W.nsIn K mainGlobals "range_in" = some (some (.ref f45)))
 (h54:K.lookup f45=some ⟨ayj,avQ,.func (W.fnOf "range_in" "range_in" (ak eO) (aj eO) (aa eO) .none alm aln alo aix aek alp),aw1⟩)
 (h55:W.codeIn K aek "range_in" = true)
 (h56:W.keepIn K (.ref f45)=true)
 (h57:W.nsIn K mainGlobals "cut_out" = some (some (.ref f46)))
 (h58:K.lookup f46=some ⟨ayk,avR,.func (W.fnOf "cut_out" "cut_out" (ak fU) (aj fU) (aa fU) .none alq alr als aiy ael alu),aw2⟩)
 (h59:W.codeIn K ael "cut_out" = true)
 (h5a:W.keepIn K (.ref f46)=true)
 (h5b:W.nsIn K mainGlobals "cut_of" = some (some (.ref f47)))
 (h5c:K.lookup f47=some ⟨ayl,avS,.func (W.fnOf "cut_of" "cut_of" (ak iz) (aj iz) (aa iz) .none alv alw alx aiz aem aly),aw3⟩)
 (h5d:W.codeIn K aem "cut_of" = true)
 (h5e:W.keepIn K (.ref f47)=true)
 (h5f:W.findIn K (.ref aJ) "__init__" = some (some (.ref f48)))
 (h5g:K.lookup f48=some ⟨aym,avT,.func (W.fnOf "__init__" "ByBox.__init__" (ak bN) (aj bN) (aa bN) .none alz alA alB aiA aen alC),aw4⟩)
 (h5h:W.codeIn K aen "ByBox.__init__" = true)
 (h5i:W.keepIn K (.ref f48)=true)
 (h5j:W.findIn K (.ref aJ) "split_at" = some (some (.ref f49)))
 (h5k:K.lookup f49=some ⟨ayn,avU,.func (W.fnOf "split_at" "ByBox.split_at" (ak bc) (aj bc) (aa bc) .none alD alE alF aiB aeo alG),aw5⟩)
 (h5l:W.codeIn K aeo "ByBox.split_at" = true)
 (h5m:W.keepIn K (.ref f49)=true)
 (h5n:W.findIn K (.ref aJ) "things_of" = some (some (.ref f50)))
 (h5o:K.lookup f50=some ⟨ayo,avV,.func (W.fnOf "things_of" "ByBox.things_of" (ak aW) (aj aW) (aa aW) .none alH alI alJ aiC aep alK),aw6⟩)
 (h5p:W.codeIn K aep "ByBox.things_of" = true)
 (h5q:W.keepIn K (.ref f50)=true)
 (h5r:W.findIn K (.ref aJ) "put" = some (some (.ref f51)))
 (h5s:K.lookup f51=some ⟨ayp,avW,.func (W.fnOf "put" "ByBox.put" (ak cR) (aj cR) (aa cR) .none alL alM alN aiD aeq alO),aw7⟩)
 (h5t:W.codeIn K aeq "ByBox.put" = true)
 (h5u:W.keepIn K (.ref f51)=true)
 (h5v:W.findIn K (.ref aJ) "span_of" = some (some (.ref f52)))
 (h5w:K.lookup f52=some ⟨ayq,avX,.func (W.fnOf "span_of" "ByBox.span_of" (ak bz) (aj bz) (aa bz) .none alP alQ alR aiE aer alS),aw8⟩)
 (h5x:W.codeIn K aer "ByBox.span_of" = true)
 (h5y:W.keepIn K (.ref f52)=true)
 (h5z:W.findIn K (.ref aJ) "is_so" = some (some (.ref f53)))
 (h60:K.lookup f53=some ⟨ayr,avY,.func (W.fnOf "is_so" "ByBox.is_so" (ak aM) (aj aM) (aa aM) .none alT alU alV aiF aaY alW),aw9⟩)
 (h61:W.codeIn K aaY "ByBox.is_so" = true)
 (h62:W.keepIn K (.ref f53)=true)
 (h63:W.findIn K (.ref aJ) "split_by" = some (some (.ref f54)))
 (h64:K.lookup f54=some ⟨ays,avZ,.func (W.fnOf "split_by" "ByBox.split_by" (ak bf) (aj bf) (aa bf) .none alX alY alZ aiG aes al0),axa⟩)
 (h65:W.codeIn K aes "ByBox.split_by" = true)
 (h66:W.keepIn K (.ref f54)=true)
 (h67:W.nsIn K mainGlobals "going_by" = some (some (.ref f55)))
 (h68:K.lookup f55=some ⟨ayt,av0,.func (W.fnOf "going_by" "going_by" (ak eQ) (aj eQ) (aa eQ) .none al1 al2 al3 aiH aet al4),axb⟩)
 (h69:W.codeIn K aet "going_by" = true)
 (h6a:W.keepIn K (.ref f55)=true)
 (h6b:W.nsIn K mainGlobals "ranges_of" = some (some (.ref f56)))
 (h6c:K.lookup f56=some ⟨ayu,av1,.func (W.fnOf "ranges_of" "ranges_of" (ak dR) (aj dR) (aa dR) .none al5 al6 al7 aiI aeu al8),axc⟩)
 (h6d:W.codeIn K aeu "ranges_of" = true)
 (h6e:W.keepIn K (.ref f56)=true)
 (h6f:W.nsIn K mainGlobals "narrowed" = some (some (.ref f57)))
 (h6g:K.lookup f57=some ⟨ayv,av2,.func (W.fnOf "narrowed" "narrowed" (ak eU) (aj eU) (aa eU) .none al9 ama amb aiJ aev amc),axd⟩)
 (h6h:W.codeIn K aev "narrowed" = true)
 (h6i:W.keepIn K (.ref f57)=true)
 (h6j:W.nsIn K mainGlobals "parts_of" = some (some (.ref f58)))
 (h6k:K.lookup f58=some ⟨ayw,av3,.func (W.fnOf "parts_of" "parts_of" (ak eV) (aj eV) (aa eV) .none amd ame amf aiK aew amg),axe⟩)
 (h6l:W.codeIn K aew "parts_of" = true)
 (h6m:W.keepIn K (.ref f58)=true)
 (h6n:W.nsIn K mainGlobals "cover" = some (some (.ref f59)))
 (h6o:K.lookup f59=some ⟨ayx,av4,.func (W.fnOf "cover" "cover" (ak kI) (aj kI) (aa kI) (.ref adJ) amh ami amj aiL aex amk),axf⟩)
 (h6p:W.codeIn K aex "cover" = true)
 (h6q:W.keepIn K (.ref f59)=true)
 (h6r:K.lookup adJ=some ⟨.type "tuple",av5,.seq ([(.int 64 YL),.none]:List Value).toArray ayT,axg⟩)
 (h6s:W.nsIn K mainGlobals "row_of" = some (some (.ref f60)))
 (h6t:K.lookup f60=some ⟨ayy,av6,.func (W.fnOf "row_of" "row_of" (ak iB) (aj iB) (aa iB) .none aml amm amn aiM aey amo),axh⟩)
 (h6u:W.codeIn K aey "row_of" = true)
 (h6v:W.keepIn K (.ref f60)=true)
 (h6w:W.nsIn K mainGlobals "told_by" = some (some (.ref f61)))
 (h6x:K.lookup f61=some ⟨ayz,av7,.func (W.fnOf "told_by" "told_by" (ak fV) (aj fV) (aa fV) .none amq amr ams aiN aez amt),axi⟩)
 (h6y:W.codeIn K aez "told_by" = true)
 (h6z:W.keepIn K (.ref f61)=true)
 (h70:W.nsIn K mainGlobals "asked_ahead_of" = some (some (.ref f62)))
 (h71:K.lookup f62=some ⟨ayA,av8,.func (W.fnOf "asked_ahead_of" "asked_ahead_of" (ak bO) (aj bO) (aa bO) .none amu amv amw aiO aeA amx),axj⟩)
 (h72:W.codeIn K aeA "asked_ahead_of" = true)
 (h73:W.keepIn K (.ref f62)=true)
 (h74:W.nsIn K mainGlobals "come_to" = some (some (.ref f63)))
 (h75:K.lookup f63=some ⟨ayB,av9,.func (W.fnOf "come_to" "come_to" (ak cW) (aj cW) (aa cW) (.ref adK) amy amz amA aiP aaZ amB),axk⟩)
 (h76:W.codeIn K aaZ "come_to" = true)
 (h77:W.keepIn K (.ref f63)=true)
 (h78:K.lookup adK=some ⟨.type "tuple",awa,.seq ([(.int 64 YM)]:List Value).toArray ayU,axl⟩)
 (h79:W.nsIn K mainGlobals "_law_cell" = some (some (.ref f64)))
 (h7a:K.lookup f64=some ⟨ayC,awb,.func (W.fnOf "_law_cell" "_law_cell" (ak eY) (aj eY) (aa eY) .none amC amD amE aiQ aeB amF),axm⟩)
 (h7b:W.codeIn K aeB "_law_cell" = true)
 (h7c:W.keepIn K (.ref f64)=true)
 (h7d:W.nsIn K mainGlobals "_law_name" = some (some (.ref f65)))
 (h7e:K.lookup f65=some ⟨ayD,awc,.func (W.fnOf "_law_name" "_law_name" (ak eZ) (aj eZ) (aa eZ) .none amG amH amI aiR aeC amJ),axn⟩)
 (h7f:W.codeIn K aeC "_law_name" = true)
 (h7g:W.keepIn K (.ref f65)=true)
 (h7h:W.nsIn K mainGlobals "_law_kind" = some (some (.ref f66)))
 (h7i:K.lookup f66=some ⟨ayE,awd,.func (W.fnOf "_law_kind" "_law_kind" (ak fc) (aj fc) (aa fc) .none amK amL amM aiS aeD amN),axo⟩)
 (h7j:W.codeIn K aeD "_law_kind" = true)
 (h7k:W.keepIn K (.ref f66)=true)
 (h7l:W.nsIn K mainGlobals "_law_object" = some (some (.ref f67)))
 (h7m:K.lookup f67=some ⟨ayF,awe,.func (W.fnOf "_law_object" "_law_object" (ak dC) (aj dC) (aa dC) .none amO amP amQ aiT aeE amR),axp⟩)
 (h7n:W.codeIn K aeE "_law_object" = true)
 (h7o:W.keepIn K (.ref f67)=true)
 (h7p:W.nsIn K mainGlobals "_law_three" = some (some (.ref f68)))
 (h7q:K.lookup f68=some ⟨ayG,awf,.func (W.fnOf "_law_three" "_law_three" (ak dU) (aj dU) (aa dU) .none amS amT amU aiU aeF amV),axq⟩)
 (h7r:W.codeIn K aeF "_law_three" = true)
 (h7s:W.keepIn K (.ref f68)=true)
 (h7t:W.nsIn K mainGlobals "_law_cut" = some (some (.ref f69)))
 (h7u:K.lookup f69=some ⟨ayH,awg,.func (W.fnOf "_law_cut" "_law_cut" (ak fW) (aj fW) (aa fW) .none amW amX amY aiV aeG amZ),axr⟩)
 (h7v:W.codeIn K aeG "_law_cut" = true)
 (h7w:W.keepIn K (.ref f69)=true)
 (h7x:W.nsIn K mainGlobals "_law_alike" = some (some (.ref f70)))
 (h7y:K.lookup f70=some ⟨ayI,awh,.func (W.fnOf "_law_alike" "_law_alike" (ak dW) (aj dW) (aa dW) .none am0 am1 am2 aiW aeH am3),axs⟩)
 (h7z:W.codeIn K aeH "_law_alike" = true)
 (h80:W.keepIn K (.ref f70)=true)
 (h81:W.nsIn K mainGlobals "_law_atom" = some (some (.ref f71)))
 (h82:K.lookup f71=some ⟨ayJ,awi,.func (W.fnOf "_law_atom" "_law_atom" (ak fj) (aj fj) (aa fj) .none am4 am5 am6 aiX aeI am7),axt⟩)
 (h83:W.codeIn K aeI "_law_atom" = true)
 (h84:W.keepIn K (.ref f71)=true)
 (h85:W.nsIn K mainGlobals "_law_saying" = some (some (.ref f72)))
 (h86:K.lookup f72=some ⟨ayK,awj,.func (W.fnOf "_law_saying" "_law_saying" (ak dD) (aj dD) (aa dD) .none am8 am9 ana aiY aeJ anb),axu⟩)
 (h87:W.codeIn K aeJ "_law_saying" = true)
 (h88:W.keepIn K (.ref f72)=true)
 (h89:W.nsIn K mainGlobals "_law_leaf" = some (some (.ref f73)))
 (h8a:K.lookup f73=some ⟨ayL,awk,.func (W.fnOf "_law_leaf" "_law_leaf" (ak fu) (aj fu) (aa fu) .none anc ane anf aiZ aeK ang),axv⟩)
 (h8b:W.codeIn K aeK "_law_leaf" = true)
 (h8c:W.keepIn K (.ref f73)=true)
 (h8d:W.nsIn K mainGlobals "_law_nodes" = some (some (.ref f74)))
 (h8e:K.lookup f74=some ⟨ayM,awl,.func (W.fnOf "_law_nodes" "_law_nodes" (ak dX) (aj dX) (aa dX) .none anh ani anj ai0 aeL ank),axw⟩)
 (h8f:W.codeIn K aeL "_law_nodes" = true)
 (h8g:W.keepIn K (.ref f74)=true)
 (h8h:W.nsIn K mainGlobals "_law_sample" = some (some (.ref f75)))
 (h8i:K.lookup f75=some ⟨ayN,awm,.func (W.fnOf "_law_sample" "_law_sample" (ak dF) (aj dF) (aa dF) .none anl anm ano ai1 aeM anp),axx⟩)
 (h8j:W.codeIn K aeM "_law_sample" = true)
 (h8k:W.keepIn K (.ref f75)=true)
 (h8l:W.nsIn K mainGlobals "_law_due" = some (some (.ref f76)))
 (h8m:K.lookup f76=some ⟨ayO,awn,.func (W.fnOf "_law_due" "_law_due" (ak fX) (aj fX) (aa fX) .none anq anr ant ai2 aeN anu),axy⟩)
 (h8n:W.codeIn K aeN "_law_due" = true)
 (h8o:W.keepIn K (.ref f76)=true)
 (h8p:W.nsIn K mainGlobals "law" = some (some (.ref f77)))
 (h8q:K.lookup f77=some ⟨ayP,awo,.func (W.fnOf "law" "law" (ak xj) (aj xj) (aa xj) .none anv anw anx ai3 aeO anz),axz⟩)
 (h8r:W.codeIn K aeO "law" = true)
 (h8s:W.keepIn K (.ref f77)=true)
 (h8t:W.nsIn K mainGlobals "SAMPLE_NAMES" = some (some (.ref ga0)))
 (h8u:K.lookup ga0=some ⟨go0,gd0,.seq gi0 gn0,gs0⟩)
 (h8v:go0=.type "tuple")
 (h8w:gi0.size≤sizeLine)
 (h8x:Vals [(.str "a"),(.str "b"),(.str "c"),(.str "d"),(.str "e"),(.str "f")] gi0.toList)
 (h8y:W.nsIn K mainGlobals "WRITTEN_TRUTHS" = some (some (.ref ga1)))
 (h8z:K.lookup ga1=some ⟨go1,gd1,.dict ge1 gn1,gs1⟩)
 (h90:(ga1 == sysModules)=false)
 (h91:go1=.type "dict")
 (h92:gd1=none)
 (h93:gs1=#[])
 (h94:PyProof.Rows.KTD.Rows (fun (b:Bool) (v:Value)=>v=.bool b) ge1.toList [("yes",true),("no",false)])
 (h95:W.nsIn K mainGlobals "all" = some none)
 (h96:W.nsIn K mainGlobals "any" = some none)
 (h97:W.nsIn K mainGlobals "bool" = some none)
 (h98:W.nsIn K mainGlobals "dict" = some none)
 (h99:W.nsIn K mainGlobals "int" = some none)
 (h9a:W.nsIn K mainGlobals "isinstance" = some none)
 (h9b:W.nsIn K mainGlobals "len" = some none)
 (h9c:W.nsIn K mainGlobals "list" = some none)
 (h9d:W.nsIn K mainGlobals "range" = some none)
 (h9e:W.nsIn K mainGlobals "str" = some none)
 (h9f:W.nsIn K mainGlobals "tuple" = some none)
 (h9w:W.clsIn K lL=some anA)
 (h9x:W.typeIn K (.ref lL)=some (.type "type"))
 (h9y:W.clsIn K cL=some YQ)
 (h9z:W.typeIn K (.ref cL)=some (.type "type"))
 (ha0:W.clsIn K cU=some aa0)
 (ha1:W.typeIn K (.ref cU)=some (.type "type"))
 (ha2:W.clsIn K cV=some YS)
 (ha3:W.typeIn K (.ref cV)=some (.type "type"))
 (ha4:W.clsIn K bT=some YT)
 (ha5:W.typeIn K (.ref bT)=some (.type "type"))
 (ha6:W.mroIn K bT (.ref cU)=some false)
 (ha7:(Value.ref bT == Value.ref cU)=false)
 (ha8:W.mroIn K cU (.ref bT)=some false)
 (ha9:(Value.ref cU == Value.ref bT)=false)
 (haa:W.mroIn K cV (.ref cL)=some false)
 (hab:(Value.ref cV == Value.ref cL)=false)
 (hac:W.mroIn K d7 (.ref cV)=some true)
 (had:(Value.ref d7 == Value.ref cV)=false)
 (hae:W.mroIn K d7 (.ref cL)=some false)
 (haf:(Value.ref d7 == Value.ref cL)=false)
 (hag:W.mroIn K cL (.ref cV)=some false)
 (hah:(Value.ref cL == Value.ref cV)=false)
 (hai:W.mroIn K bh (.ref lL)=some false)
 (haj:(Value.ref bh == Value.ref lL)=false)
 (hak:W.plainGet K bT Str.empty=true)
 (hal:W.hasDictIn K bT=true)
 (ham:W.plainOver K bT=true)
 (han:W.findIn K (.ref bT) "__setattr__" = some (some (.builtin "object.__setattr__")))
 (hao:W.findIn K (.ref bT) "__class__" = some (some (.builtin "object.__class__")))
 (hap:W.specialIn K (.builtin "object.__class__") "__get__" = some (some (.builtin "getset_descriptor.__get__")))
 (haq:W.takesIn K (.builtin "object.__class__")=some true)
 (har:W.mroIn K bT (.type "object")=some true)
 (has:W.makesIn K bT=true)
 (hat:W.findIn K (.ref bT) "__init__" = some (some (.ref f1)))
 (hau:W.isFn K (.ref f1)=true)
 (hav:W.keepIn K (.ref bT)=true)
 (haw:W.findIn K (.ref bT) "fits" = some (some (.ref f2)))
 (hax:W.isFn K (.ref f2)=true)
 (hay:W.findIn K (.ref bT) "answer_of" = some (some (.ref f3)))
 (haz:W.isFn K (.ref f3)=true)
 (hb0:W.findIn K (.ref bT) "rank" = some (some (.ref f4)))
 (hb1:W.isFn K (.ref f4)=true)
 (hb2:W.findIn K (.ref bT) "sample" = some (some (.ref f5)))
 (hb3:W.isFn K (.ref f5)=true)
 (hb4:W.findIn K (.ref bT) "low" = some none)
 (hb5:W.findIn K (.ref bT) "high" = some none)
 (Zb:W.plainGet K cV Str.empty=true)
 (hb7:W.hasDictIn K cV=true)
 (hb8:W.plainOver K cV=true)
 (hb9:W.findIn K (.ref cV) "__setattr__" = some (some (.builtin "object.__setattr__")))
 (hba:W.findIn K (.ref cV) "__class__" = some (some (.builtin "object.__class__")))
 (hbb:W.specialIn K (.builtin "object.__class__") "__get__" = some (some (.builtin "getset_descriptor.__get__")))
 (hbc:W.takesIn K (.builtin "object.__class__")=some true)
 (hbd:W.mroIn K cV (.type "object")=some true)
 (hbe:W.makesIn K cV=true)
 (hbf:W.findIn K (.ref cV) "__init__" = some (some (.ref f0)))
 (hbg:W.isFn K (.ref f0)=true)
 (hbh:W.keepIn K (.ref cV)=true)
 (hbi:W.findIn K (.ref cV) "sample" = some (some (.ref f6)))
 (hbj:W.isFn K (.ref f6)=true)
 (hbk:W.findIn K (.ref cV) "low" = some none)
 (YX:W.findIn K (.ref cV) "high" = some none)
 (hbm:W.plainGet K d7 Str.empty=true)
 (hbn:W.hasDictIn K d7=true)
 (hbo:W.plainOver K d7=true)
 (hbp:W.findIn K (.ref d7) "__setattr__" = some (some (.builtin "object.__setattr__")))
 (hbq:W.findIn K (.ref d7) "__class__" = some (some (.builtin "object.__class__")))
 (hbr:W.specialIn K (.builtin "object.__class__") "__get__" = some (some (.builtin "getset_descriptor.__get__")))
 (hbs:W.takesIn K (.builtin "object.__class__")=some true)
 (hbt:W.mroIn K d7 (.type "object")=some true)
 (hbu:W.makesIn K d7=true)
 (hbv:W.findIn K (.ref d7) "__init__" = some (some (.ref f0)))
 (hbw:W.isFn K (.ref f0)=true)
 (hbx:W.keepIn K (.ref d7)=true)
 (hby:W.findIn K (.ref d7) "sample" = some (some (.ref f6)))
 (hbz:W.isFn K (.ref f6)=true)
 (hc0:W.findIn K (.ref d7) "low" = some none)
 (hc1:W.findIn K (.ref d7) "high" = some none)
 (hc2:W.plainGet K cL Str.empty=true)
 (hc3:W.hasDictIn K cL=true)
 (hc4:W.plainOver K cL=true)
 (hc5:W.findIn K (.ref cL) "__setattr__" = some (some (.builtin "object.__setattr__")))
 (hc6:W.findIn K (.ref cL) "__class__" = some (some (.builtin "object.__class__")))
 (hc7:W.specialIn K (.builtin "object.__class__") "__get__" = some (some (.builtin "getset_descriptor.__get__")))
 (hc8:W.takesIn K (.builtin "object.__class__")=some true)
 (hc9:W.mroIn K cL (.type "object")=some true)
 (hca:W.makesIn K cL=true)
 (hcb:W.findIn K (.ref cL) "__init__" = some (some (.ref f12)))
 (hcc:W.isFn K (.ref f12)=true)
 (hcd:W.keepIn K (.ref cL)=true)
 (hce:W.findIn K (.ref cL) "sample" = some (some (.ref f13)))
 (hcf:W.isFn K (.ref f13)=true)
 (hcg:W.findIn K (.ref cL) "low" = some none)
 (hch:W.findIn K (.ref cL) "high" = some none)
 (hci:W.plainGet K cU Str.empty=true)
 (hcj:W.hasDictIn K cU=true)
 (hck:W.plainOver K cU=true)
 (hcl:W.findIn K (.ref cU) "__setattr__" = some (some (.builtin "object.__setattr__")))
 (hcm:W.findIn K (.ref cU) "__class__" = some (some (.builtin "object.__class__")))
 (hcn:W.specialIn K (.builtin "object.__class__") "__get__" = some (some (.builtin "getset_descriptor.__get__")))
 (hco:W.takesIn K (.builtin "object.__class__")=some true)
 (hcp:W.mroIn K cU (.type "object")=some true)
 (hcq:W.makesIn K cU=true)
 (hcr:W.findIn K (.ref cU) "__init__" = some (some (.ref f7)))
 (hcs:W.isFn K (.ref f7)=true)
 (hct:W.keepIn K (.ref cU)=true)
 (hcu:W.findIn K (.ref cU) "fits" = some (some (.ref f8)))
 (hcv:W.isFn K (.ref f8)=true)
 (hcw:W.findIn K (.ref cU) "answer_of" = some (some (.ref f9)))
 (hcx:W.isFn K (.ref f9)=true)
 (hcy:W.findIn K (.ref cU) "rank" = some (some (.ref f10)))
 (hcz:W.isFn K (.ref f10)=true)
 (hd0:W.findIn K (.ref cU) "sample" = some (some (.ref f11)))
 (hd1:W.isFn K (.ref f11)=true)
 (hd2:W.findIn K (.ref cU) "low" = some none)
 (hd3:W.findIn K (.ref cU) "high" = some none)
 (hd4:W.findIn K (.ref cU) "words" = some none)
 (hd5:W.plainGet K oJ Str.empty=true)
 (hd6:W.hasDictIn K oJ=true)
 (hd7:W.plainOver K oJ=true)
 (hd8:W.findIn K (.ref oJ) "__setattr__" = some (some (.builtin "object.__setattr__")))
 (hd9:W.findIn K (.ref oJ) "__class__" = some (some (.builtin "object.__class__")))
 (hda:W.specialIn K (.builtin "object.__class__") "__get__" = some (some (.builtin "getset_descriptor.__get__")))
 (hdb:W.takesIn K (.builtin "object.__class__")=some true)
 (hdc:W.mroIn K oJ (.type "object")=some true)
 (hdd:W.makesIn K oJ=true)
 (hde:W.findIn K (.ref oJ) "__init__" = some (some (.ref f15)))
 (hdf:W.isFn K (.ref f15)=true)
 (hdg:W.keepIn K (.ref oJ)=true)
 (hdh:W.findIn K (.ref oJ) "name" = some none)
 (hdi:W.findIn K (.ref oJ) "kind" = some none)
 (hdj:W.findIn K (.ref oJ) "when" = some none)
 (hdk:W.plainGet K gm Str.empty=true)
 (hdl:W.hasDictIn K gm=true)
 (hdm:W.plainOver K gm=true)
 (hdn:W.findIn K (.ref gm) "__setattr__" = some (some (.builtin "object.__setattr__")))
 (hdo:W.makesIn K gm=true)
 (hdp:W.findIn K (.ref gm) "__init__" = some (some (.ref f16)))
 (hdq:W.isFn K (.ref f16)=true)
 (hdr:W.keepIn K (.ref gm)=true)
 (hds:W.findIn K (.ref gm) "name" = some none)
 (hdt:W.findIn K (.ref gm) "each" = some none)
 (hdu:W.findIn K (.ref gm) "rows" = some none)
 (hdv:W.findIn K (.ref gm) "ways" = some none)
 (hdw:W.plainGet K gR Str.empty=true)
 (hdx:W.hasDictIn K gR=true)
 (hdy:W.plainOver K gR=true)
 (hdz:W.findIn K (.ref gR) "__setattr__" = some (some (.builtin "object.__setattr__")))
 (he0:W.makesIn K gR=true)
 (he1:W.findIn K (.ref gR) "__init__" = some (some (.ref f17)))
 (he2:W.isFn K (.ref f17)=true)
 (he3:W.keepIn K (.ref gR)=true)
 (he4:W.findIn K (.ref gR) "name" = some none)
 (he5:W.findIn K (.ref gR) "sheets" = some none)
 (he6:W.findIn K (.ref gR) "totals" = some none)
 (he7:W.plainGet K aJ Str.empty=true)
 (he8:W.hasDictIn K aJ=true)
 (he9:W.plainOver K aJ=true)
 (hea:W.findIn K (.ref aJ) "__setattr__" = some (some (.builtin "object.__setattr__")))
 (heb:W.makesIn K aJ=true)
 (hec:W.findIn K (.ref aJ) "__init__" = some (some (.ref f48)))
 (hed:W.isFn K (.ref f48)=true)
 (hee:W.keepIn K (.ref aJ)=true)
 (hef:W.findIn K (.ref aJ) "things_of" = some (some (.ref f50)))
 (heg:W.isFn K (.ref f50)=true)
 (heh:W.findIn K (.ref aJ) "put" = some (some (.ref f51)))
 (hei:W.isFn K (.ref f51)=true)
 (hej:W.findIn K (.ref aJ) "is_so" = some (some (.ref f53)))
 (hek:W.isFn K (.ref f53)=true)
 (hel:W.findIn K (.ref aJ) "note" = some (some (.ref f22)))
 (hem:W.isFn K (.ref f22)=true)
 (hen:W.findIn K (.ref aJ) "stop_with" = some (some (.ref f25)))
 (heo:W.isFn K (.ref f25)=true)
 (hep:W.findIn K (.ref aJ) "go_through" = some (some (.ref f26)))
 (heq:W.isFn K (.ref f26)=true)
 (her:W.findIn K (.ref aJ) "targets_of" = some (some (.ref f27)))
 (hes:W.isFn K (.ref f27)=true)
 (het:W.findIn K (.ref aJ) "leave" = some (some (.ref f28)))
 (heu:W.isFn K (.ref f28)=true)
 (hev:W.findIn K (.ref aJ) "go" = some (some (.ref f29)))
 (hew:W.isFn K (.ref f29)=true)
 (hex:W.findIn K (.ref aJ) "own_thing" = some (some (.ref f23)))
 (hey:W.isFn K (.ref f23)=true)
 (hez:W.findIn K (.ref aJ) "known_of" = some (some (.ref f24)))
 (hf0:W.isFn K (.ref f24)=true)
 (hf1:W.findIn K (.ref aJ) "span_of" = some (some (.ref f52)))
 (hf2:W.isFn K (.ref f52)=true)
 (hf3:W.findIn K (.ref aJ) "split_at" = some (some (.ref f49)))
 (hf4:W.isFn K (.ref f49)=true)
 (hf5:W.findIn K (.ref aJ) "split_by" = some (some (.ref f54)))
 (hf6:W.isFn K (.ref f54)=true)
 (hf7:W.findIn K (.ref aJ) "paper" = some none)
 (hf8:W.findIn K (.ref aJ) "alone" = some none)
 (hf9:W.findIn K (.ref aJ) "kinds" = some none)
 (hfa:W.findIn K (.ref aJ) "eaches" = some none)
 (hfb:W.findIn K (.ref aJ) "together" = some none)
 (hfc:W.findIn K (.ref aJ) "asked" = some none)
 (hfd:W.findIn K (.ref aJ) "log" = some none)
 (hfe:W.findIn K (.ref aJ) "doubles" = some none)
 (hff:W.findIn K (.ref aJ) "over" = some none)
 (hfg:W.findIn K (.ref aJ) "box" = some none)
 (hfh:W.findIn K (.ref aJ) "cutting" = some none)
 (hfi:W.plainGet K lL Str.empty=true)
 (hfj:W.hasDictIn K lL=true)
 (hfk:W.plainOver K lL=true)
 (hfl:W.findIn K (.ref lL) "__setattr__" = some (some (.builtin "object.__setattr__")))
 (hfm:W.findIn K (.ref lL) "__class__" = some (some (.builtin "object.__class__")))
 (hfn:W.specialIn K (.builtin "object.__class__") "__get__" = some (some (.builtin "getset_descriptor.__get__")))
 (hfo:W.takesIn K (.builtin "object.__class__")=some true)
 (hfp:W.mroIn K lL (.type "object")=some true)
 (hfq:W.makesIn K lL=true)
 (hfr:W.findIn K (.ref lL) "__init__" = some (some (.ref f33)))
 (hfs:W.isFn K (.ref f33)=true)
 (hft:W.keepIn K (.ref lL)=true)
 (hfu:W.findIn K (.ref lL) "settled" = some (some (.ref f35)))
 (hfv:W.isFn K (.ref f35)=true)
 (hfw:W.findIn K (.ref lL) "sure" = some (some (.ref f36)))
 (hfx:W.isFn K (.ref f36)=true)
 (hfy:W.findIn K (.ref lL) "atoms" = some (some (.ref f34)))
 (hfz:W.isFn K (.ref f34)=true)
 (hg0:W.findIn K (.ref lL) "first_open" = some (some (.ref Ze)))
 (hg1:W.isFn K (.ref Ze)=true)
 (hg2:W.findIn K (.ref lL) "name" = some none)
 (hg3:W.findIn K (.ref lL) "word" = some none)
 (hg4:W.findIn K (.ref lL) "place" = some none)
 (hg5:W.plainGet K bh Str.empty=true)
 (hg6:W.hasDictIn K bh=true)
 (hg7:W.plainOver K bh=true)
 (hg8:W.findIn K (.ref bh) "__setattr__" = some (some (.builtin "object.__setattr__")))
 (hg9:W.findIn K (.ref bh) "__class__" = some (some (.builtin "object.__class__")))
 (hga:W.specialIn K (.builtin "object.__class__") "__get__" = some (some (.builtin "getset_descriptor.__get__")))
 (hgb:W.takesIn K (.builtin "object.__class__")=some true)
 (hgc:W.mroIn K bh (.type "object")=some true)
 (hgd:W.makesIn K bh=true)
 (hge:W.findIn K (.ref bh) "__init__" = some (some (.ref f37)))
 (hgf:W.isFn K (.ref f37)=true)
 (hgg:W.keepIn K (.ref bh)=true)
 (hgh:W.findIn K (.ref bh) "settled" = some (some (.ref f39)))
 (hgi:W.isFn K (.ref f39)=true)
 (hgj:W.findIn K (.ref bh) "sure" = some (some (.ref f40)))
 (hgk:W.isFn K (.ref f40)=true)
 (hgl:W.findIn K (.ref bh) "atoms" = some (some (.ref f38)))
 (hgm:W.isFn K (.ref f38)=true)
 (hgn:W.findIn K (.ref bh) "first_open" = some (some (.ref Ze)))
 (hgo:W.isFn K (.ref Ze)=true)
 (hgp:W.findIn K (.ref bh) "name" = some none)
 (hgq:W.findIn K (.ref bh) "how" = some none)
 (hgr:W.findIn K (.ref bh) "number" = some none)
 (hgs:W.plainGet K jF Str.empty=true)
 (hgt:W.hasDictIn K jF=true)
 (hgu:W.plainOver K jF=true)
 (hgv:W.findIn K (.ref jF) "__setattr__" = some (some (.builtin "object.__setattr__")))
 (hgw:W.makesIn K jF=true)
 (hgx:W.findIn K (.ref jF) "__init__" = some (some (.ref f41)))
 (hgy:W.isFn K (.ref f41)=true)
 (hgz:W.keepIn K (.ref jF)=true)
 (hh0:W.findIn K (.ref jF) "settled" = some (some (.ref f43)))
 (hh1:W.isFn K (.ref f43)=true)
 (hh2:W.findIn K (.ref jF) "sure" = some (some (.ref f44)))
 (hh3:W.isFn K (.ref f44)=true)
 (hh4:W.findIn K (.ref jF) "atoms" = some (some (.ref f42)))
 (hh5:W.isFn K (.ref f42)=true)
 (hh6:W.findIn K (.ref jF) "first_open" = some (some (.ref Ze)))
 (hh7:W.isFn K (.ref Ze)=true)
 (hh8:W.findIn K (.ref jF) "test" = some none)
 (hh9:W.readsIn K gj (.type "type")=true)
 (hha:W.findCls K (.ref gj) (.type "type") "__init__" = some (.val (.ref f21)))
 (hhb:W.specialIn K (.ref gj) "__getattribute__" = some (some (.builtin "type.__getattribute__")))
 (hhc:W.readsIn K BX (.type "type")=true)
 (hhd:W.findCls K (.ref BX) (.type "type") "__init__" = some (.val (.ref f0)))
 (hhe:W.specialIn K (.ref BX) "__getattribute__" = some (some (.builtin "type.__getattribute__")))
 (hhf:W.readsIn K J7 (.type "type")=true)
 (hhg:W.findCls K (.ref J7) (.type "type") "__init__" = some (.val (.ref f14)))
 (hhh:W.specialIn K (.ref J7) "__getattribute__" = some (some (.builtin "type.__getattribute__")))
 (mk1:aaY=.ref mc)
 (mk2:K.lookup mc=some ⟨mt,mod,.fields mvs,msl⟩)
 (mk3:mvs[11]? = some (.ref mP))
 (mk4:W.codeHdIn K mc mP=true)
 (mk5:K.lookup mP=none)
 (mk6:h.get? mP=some (W.tabObj #[]))
 (nk1:aaZ=.ref nc)
 (nk2:K.lookup nc=some ⟨nt,nod,.fields nvs,nsl⟩)
 (nk3:nvs[11]? = some (.ref nP))
 (nk4:W.codeHdIn K nc nP=true)
 (nk5:K.lookup nP=none)
 (nk6:h.get? nP=some (W.tabObj #[]))
 (mn7:nP≠mP) :
 ∃ A:cM,Txt K mg A∧∃ c P c2 P2,A.aP.code=.ref c∧W.codeHdIn K c P=true∧K.lookup P=none∧h.get? P=some (W.tabObj #[])∧A.gM.code=.ref c2∧W.codeHdIn K c2 P2=true∧K.lookup P2=none∧h.get? P2=some (W.tabObj #[])∧P2≠P :=
 ⟨⟨f0,
   W.fnOf "__init__" "Kind.__init__" (ak bW) (aj bW) (aa bW) .none kV0 dc0 pm0 an0 cd0 ct0,
   f1,
   W.fnOf "__init__" "YesNo.__init__" (ak bC) (aj bC) (aa bC) .none kV1 dc1 pm1 an1 cd1 ct1,
   f2,
   W.fnOf "fits" "YesNo.fits" (ak cu) (aj cu) (aa cu) .none kV2 dc2 pm2 an2 cd2 ct2,
   f3,
   W.fnOf "answer_of" "YesNo.answer_of" (ak aQ) (aj aQ) (aa aQ) .none kV3 dc3 pm3 an3 cd3 ct3,
   f4,
   W.fnOf "rank" "YesNo.rank" (ak cz) (aj cz) (aa cz) .none kV4 dc4 pm4 an4 cd4 ct4,
   f5,
   W.fnOf "sample" "YesNo.sample" (ak bD) (aj bD) (aa bD) .none kV5 dc5 pm5 an5 cd5 ct5,
   f6,
   W.fnOf "sample" "Whole.sample" (ak bG) (aj bG) (aa bG) .none kV6 dc6 pm6 an6 cd6 ct6,
   f7,
   W.fnOf "__init__" "Pick.__init__" (ak bY) (aj bY) (aa bY) .none kV7 dc7 pm7 an7 cd7 ct7,
   f8,
   W.fnOf "fits" "Pick.fits" (ak cN) (aj cN) (aa cN) .none kV8 dc8 pm8 an8 cd8 ct8,
   f9,
   W.fnOf "answer_of" "Pick.answer_of" (ak aX) (aj aX) (aa aX) .none kV9 dc9 pm9 an9 cd9 ct9,
   f10,
   W.fnOf "rank" "Pick.rank" (ak cO) (aj cO) (aa cO) .none ai4 ai5 ai6 ahX adL ai7,
   f11,
   W.fnOf "sample" "Pick.sample" (ak bZ) (aj bZ) (aa bZ) .none ai8 ai9 aja ahY adM ajb,
   f12,
   W.fnOf "__init__" "Names.__init__" (ak bH) (aj bH) (aa bH) (.ref adG) ajc ajd aje ahZ adN ajf,
   [(.int 3 YK)],
   f13,
   W.fnOf "sample" "Names.sample" (ak bI) (aj bI) (aa bI) .none ajg ajh aji ah0 adO ajj,
   f14,
   W.fnOf "__init__" "Row.__init__" (ak cA) (aj cA) (aa cA) .none ajk ajl ajm ah1 adP ajn,
   f15,
   W.fnOf "__init__" "Ask.__init__" (ak bV) (aj bV) (aa bV) (.ref adH) ajo ajp ajq ah2 adQ ajr,
   [.none],
   f16,
   W.fnOf "__init__" "Sheet.__init__" (ak bJ) (aj bJ) (aa bJ) .none ajs ajt aju ah3 adR ajv,
   f17,
   W.fnOf "__init__" "Paper.__init__" (ak bK) (aj bK) (aa bK) .none ajw ajx ajy ah4 adS ajz,
   f18,
   W.fnOf "kinds_of" "kinds_of" (ak eG) (aj eG) (aa eG) .none ajA ajB ajC ah5 adT ajD,
   f19,
   W.fnOf "eaches_of" "eaches_of" (ak dN) (aj dN) (aa dN) .none ajE ajF ajG ah6 adU ajH,
   f20,
   W.fnOf "all_together" "all_together" (ak cB) (aj cB) (aa cB) .none ajI ajJ ajK ah7 adV ajL,
   f21,
   W.fnOf "__init__" "Going.__init__" (ak bL) (aj bL) (aa bL) .none ajM ajN ajO ah8 adW ajP,
   f22,
   W.fnOf "note" "Going.note" (ak cD) (aj cD) (aa cD) .none ajQ ajR ajS ah9 adX ajT,
   f23,
   W.fnOf "own_thing" "Going.own_thing" (ak aR) (aj aR) (aa aR) .none ajU ajV ajW aia adY ajX,
   f24,
   W.fnOf "known_of" "Going.known_of" (ak aY) (aj aY) (aa aY) .none ajY ajZ aj0 aib adZ aj1,
   f25,
   W.fnOf "stop_with" "Going.stop_with" (ak aU) (aj aU) (aa aU) .none aj2 aj3 aj4 aic ad0 aj5,
   f26,
   W.fnOf "go_through" "Going.go_through" (ak aN) (aj aN) (aa aN) .none aj6 aj7 aj8 aid ad1 aj9,
   f27,
   W.fnOf "targets_of" "Going.targets_of" (ak aO) (aj aO) (aa aO) .none aka akb akc aie ad2 akd,
   f28,
   W.fnOf "leave" "Going.leave" (ak b7) (aj b7) (aa b7) .none ake akf akg aif ad3 akh,
   f29,
   W.fnOf "go" "Going.go" (ak du) (aj du) (aa du) .none aki akj akk aih ad4 akl,
   f30,
   W.fnOf "compares" "compares" (ak eN) (aj eN) (aa eN) .none akm akn ako aii ad5 akp,
   f31,
   W.fnOf "surely_compares" "surely_compares" (ak bu) (aj bu) (aa bu) .none akq akr aks aij ad6 akt,
   Ze,
   W.fnOf "first_open" "Saying.first_open" (ak aK) (aj aK) (aa aK) .none aku akv akx aik ad7 aky,
   f33,
   W.fnOf "__init__" "Is.__init__" (ak cF) (aj cF) (aa cF) (.ref adI) akz akA akB ail ad8 akC,
   [.none],
   f34,
   W.fnOf "atoms" "Is.atoms" (ak dw) (aj dw) (aa dw) .none akD akE akF aim ad9 akG,
   f35,
   W.fnOf "settled" "Is.settled" (ak cG) (aj cG) (aa cG) .none akH akI akJ ain aea akK,
   f36,
   W.fnOf "sure" "Is.sure" (ak dO) (aj dO) (aa dO) .none akL akM akN aio aeb akO,
   f37,
   W.fnOf "__init__" "Compare.__init__" (ak aZ) (aj aZ) (aa aZ) .none akP akQ akR aip aec akS,
   f38,
   W.fnOf "atoms" "Compare.atoms" (ak bw) (aj bw) (aa bw) .none akT akU akV aiq aed akW,
   f39,
   W.fnOf "settled" "Compare.settled" (ak aV) (aj aV) (aa aV) .none akX akY akZ air aee ak0,
   f40,
   W.fnOf "sure" "Compare.sure" (ak bM) (aj bM) (aa bM) .none ak1 ak2 ak3 ais aef ak4,
   f41,
   W.fnOf "__init__" "Not.__init__" (ak cH) (aj cH) (aa cH) .none ak5 ak6 ak7 ait aeg ak8,
   f42,
   W.fnOf "atoms" "Not.atoms" (ak cQ) (aj cQ) (aa cQ) .none ak9 ala alb aiu aeh alc,
   f43,
   W.fnOf "settled" "Not.settled" (ak b8) (aj b8) (aa b8) .none ald ale alf aiv aei alg,
   f44,
   W.fnOf "sure" "Not.sure" (ak dB) (aj dB) (aa dB) .none alh ali alj aiw aej alk,
   f45,
   W.fnOf "range_in" "range_in" (ak eO) (aj eO) (aa eO) .none alm aln alo aix aek alp,
   f46,
   W.fnOf "cut_out" "cut_out" (ak fU) (aj fU) (aa fU) .none alq alr als aiy ael alu,
   f47,
   W.fnOf "cut_of" "cut_of" (ak iz) (aj iz) (aa iz) .none alv alw alx aiz aem aly,
   f48,
   W.fnOf "__init__" "ByBox.__init__" (ak bN) (aj bN) (aa bN) .none alz alA alB aiA aen alC,
   f49,
   W.fnOf "split_at" "ByBox.split_at" (ak bc) (aj bc) (aa bc) .none alD alE alF aiB aeo alG,
   f50,
   W.fnOf "things_of" "ByBox.things_of" (ak aW) (aj aW) (aa aW) .none alH alI alJ aiC aep alK,
   f51,
   W.fnOf "put" "ByBox.put" (ak cR) (aj cR) (aa cR) .none alL alM alN aiD aeq alO,
   f52,
   W.fnOf "span_of" "ByBox.span_of" (ak bz) (aj bz) (aa bz) .none alP alQ alR aiE aer alS,
   f53,
   W.fnOf "is_so" "ByBox.is_so" (ak aM) (aj aM) (aa aM) .none alT alU alV aiF aaY alW,
   f54,
   W.fnOf "split_by" "ByBox.split_by" (ak bf) (aj bf) (aa bf) .none alX alY alZ aiG aes al0,
   f55,
   W.fnOf "going_by" "going_by" (ak eQ) (aj eQ) (aa eQ) .none al1 al2 al3 aiH aet al4,
   f56,
   W.fnOf "ranges_of" "ranges_of" (ak dR) (aj dR) (aa dR) .none al5 al6 al7 aiI aeu al8,
   f57,
   W.fnOf "narrowed" "narrowed" (ak eU) (aj eU) (aa eU) .none al9 ama amb aiJ aev amc,
   f58,
   W.fnOf "parts_of" "parts_of" (ak eV) (aj eV) (aa eV) .none amd ame amf aiK aew amg,
   f59,
   W.fnOf "cover" "cover" (ak kI) (aj kI) (aa kI) (.ref adJ) amh ami amj aiL aex amk,
   [(.int 64 YL),.none],
   f60,
   W.fnOf "row_of" "row_of" (ak iB) (aj iB) (aa iB) .none aml amm amn aiM aey amo,
   f61,
   W.fnOf "told_by" "told_by" (ak fV) (aj fV) (aa fV) .none amq amr ams aiN aez amt,
   f62,
   W.fnOf "asked_ahead_of" "asked_ahead_of" (ak bO) (aj bO) (aa bO) .none amu amv amw aiO aeA amx,
   f63,
   W.fnOf "come_to" "come_to" (ak cW) (aj cW) (aa cW) (.ref adK) amy amz amA aiP aaZ amB,
   [(.int 64 YM)],
   f64,
   W.fnOf "_law_cell" "_law_cell" (ak eY) (aj eY) (aa eY) .none amC amD amE aiQ aeB amF,
   f65,
   W.fnOf "_law_name" "_law_name" (ak eZ) (aj eZ) (aa eZ) .none amG amH amI aiR aeC amJ,
   f66,
   W.fnOf "_law_kind" "_law_kind" (ak fc) (aj fc) (aa fc) .none amK amL amM aiS aeD amN,
   f67,
   W.fnOf "_law_object" "_law_object" (ak dC) (aj dC) (aa dC) .none amO amP amQ aiT aeE amR,
   f68,
   W.fnOf "_law_three" "_law_three" (ak dU) (aj dU) (aa dU) .none amS amT amU aiU aeF amV,
   f69,
   W.fnOf "_law_cut" "_law_cut" (ak fW) (aj fW) (aa fW) .none amW amX amY aiV aeG amZ,
   f70,
   W.fnOf "_law_alike" "_law_alike" (ak dW) (aj dW) (aa dW) .none am0 am1 am2 aiW aeH am3,
   f71,
   W.fnOf "_law_atom" "_law_atom" (ak fj) (aj fj) (aa fj) .none am4 am5 am6 aiX aeI am7,
   f72,
   W.fnOf "_law_saying" "_law_saying" (ak dD) (aj dD) (aa dD) .none am8 am9 ana aiY aeJ anb,
   f73,
   W.fnOf "_law_leaf" "_law_leaf" (ak fu) (aj fu) (aa fu) .none anc ane anf aiZ aeK ang,
   f74,
   W.fnOf "_law_nodes" "_law_nodes" (ak dX) (aj dX) (aa dX) .none anh ani anj ai0 aeL ank,
   f75,
   W.fnOf "_law_sample" "_law_sample" (ak dF) (aj dF) (aa dF) .none anl anm ano ai1 aeM anp,
   f76,
   W.fnOf "_law_due" "_law_due" (ak fX) (aj fX) (aa fX) .none anq anr ant ai2 aeN anu,
   f77,
   W.fnOf "law" "law" (ak xj) (aj xj) (aa xj) .none anv anw anx ai3 aeO anz,
   ga0,
   ga1,
   oJ,
   aJ,
   bh,
   gj,
   lL,
   BX,
   d7,
   cL,
   jF,
   gR,
   cU,
   J7,
   HW,
   gm,
   cV,
   bT⟩,⟨ao (st:=bW) h01 h02 h03,
   (ao (st:=bW) h01 h02 h03).binds (ps:=["self","low","high"]) (fun _ _ _ _ _ _ us hl=>J6 us hl fun _ _ _=>rfl),
   ao (st:=bC) h05 h06 h07,
   (ao (st:=bC) h05 h06 h07).binds (ps:=["self"]) (fun _ _ _ _ _ _ us hl=>Zd us hl fun _=>rfl),
   ao (st:=cu) h09 h0a h0b,
   (ao (st:=cu) h09 h0a h0b).binds (ps:=["self","thing"]) (fun _ _ _ _ _ _ us hl=>uB us hl fun _ _=>rfl),
   ao (st:=aQ) h0d h0e h0f,
   (ao (st:=aQ) h0d h0e h0f).binds (ps:=["self","text"]) (fun _ _ _ _ _ _ us hl=>uB us hl fun _ _=>rfl),
   ao (st:=cz) h0h h0i h0j,
   (ao (st:=cz) h0h h0i h0j).binds (ps:=["self","answer"]) (fun _ _ _ _ _ _ us hl=>uB us hl fun _ _=>rfl),
   ao (st:=bD) h0l h0m h0n,
   (ao (st:=bD) h0l h0m h0n).binds (ps:=["self","rank"]) (fun _ _ _ _ _ _ us hl=>uB us hl fun _ _=>rfl),
   ao (st:=bG) h0p h0q h0r,
   (ao (st:=bG) h0p h0q h0r).binds (ps:=["self","rank"]) (fun _ _ _ _ _ _ us hl=>uB us hl fun _ _=>rfl),
   ao (st:=bY) h0t h0u h0v,
   (ao (st:=bY) h0t h0u h0v).binds (ps:=["self","words"]) (fun _ _ _ _ _ _ us hl=>uB us hl fun _ _=>rfl),
   ao (st:=cN) h0x h0y h0z,
   (ao (st:=cN) h0x h0y h0z).binds (ps:=["self","thing"]) (fun _ _ _ _ _ _ us hl=>uB us hl fun _ _=>rfl),
   ao (st:=aX) h11 h12 h13,
   (ao (st:=aX) h11 h12 h13).binds (ps:=["self","text"]) (fun _ _ _ _ _ _ us hl=>uB us hl fun _ _=>rfl),
   ao (st:=cO) h15 h16 h17,
   (ao (st:=cO) h15 h16 h17).binds (ps:=["self","answer"]) (fun _ _ _ _ _ _ us hl=>uB us hl fun _ _=>rfl),
   ao (st:=bZ) h19 h1a h1b,
   (ao (st:=bZ) h19 h1a h1b).binds (ps:=["self","rank"]) (fun _ _ _ _ _ _ us hl=>uB us hl fun _ _=>rfl),
   (xJ (st:=bH) h1d h1e h1f h1g),
   (xJ (st:=bH) h1d h1e h1f h1g).binds (es:=[]) (fun T _ _ _ _ _ _ us M A E Q s to n ht hc hd hl hq=>uB us (oR (m:=2) hl rfl) (fun _ _ hq=>BindsTo.of_defaults rfl ht hd rfl rfl M A E Q hq) hq),
   ao (st:=bI) h1i h1j h1k,
   (ao (st:=bI) h1i h1j h1k).binds (ps:=["self","rank"]) (fun _ _ _ _ _ _ us hl=>uB us hl fun _ _=>rfl),
   ao (st:=cA) h1m h1n h1o,
   (ao (st:=cA) h1m h1n h1o).binds (ps:=["self","name"]) (fun _ _ _ _ _ _ us hl=>uB us hl fun _ _=>rfl),
   (xJ (st:=bV) h1q h1r h1s h1t),
   (xJ (st:=bV) h1q h1r h1s h1t).binds (es:=[]) (fun T _ _ _ _ _ _ us M A E Q s to n ht hc hd hl hq=>Vp us (oR (m:=4) hl rfl) (fun _ _ _ _ hq=>BindsTo.of_defaults rfl ht hd rfl rfl M A E Q hq) hq),
   (xJ (st:=bV) h1q h1r h1s h1t).binds (fun T _ _ _ _ _ _ us M A E Q s to n ht hc hd hl hq=>J6 us (oR (m:=3) hl rfl) (fun _ _ _ hq=>BindsTo.of_defaults rfl ht hd rfl rfl M A E Q hq) hq),
   .cons rfl (.nil),
   ao (st:=bJ) h1v h1w h1x,
   (ao (st:=bJ) h1v h1w h1x).binds (ps:=["self","name","each","rows","ways"]) (fun _ _ _ _ _ _ us hl=>el5 us hl fun _ _ _ _ _=>rfl),
   ao (st:=bK) h1z h20 h21,
   (ao (st:=bK) h1z h20 h21).binds (ps:=["self","name","sheets","totals"]) (fun _ _ _ _ _ _ us hl=>Vp us hl fun _ _ _ _=>rfl),
   ao (st:=eG) h23 h24 h25,
   (ao (st:=eG) h23 h24 h25).binds (ps:=["paper"]) (fun _ _ _ _ _ _ us hl=>Zd us hl fun _=>rfl),
   h25,
   W.mg_of X G h22,
   ao (st:=dN) h27 h28 h29,
   (ao (st:=dN) h27 h28 h29).binds (ps:=["paper"]) (fun _ _ _ _ _ _ us hl=>Zd us hl fun _=>rfl),
   h29,
   W.mg_of X G h26,
   ao (st:=cB) h2b h2c h2d,
   (ao (st:=cB) h2b h2c h2d).binds (ps:=["paper"]) (fun _ _ _ _ _ _ us hl=>Zd us hl fun _=>rfl),
   h2d,
   W.mg_of X G h2a,
   ao (st:=bL) h2f h2g h2h,
   (ao (st:=bL) h2f h2g h2h).binds (ps:=["self","paper","alone"]) (fun _ _ _ _ _ _ us hl=>J6 us hl fun _ _ _=>rfl),
   ao (st:=cD) h2j h2k h2l,
   (ao (st:=cD) h2j h2k h2l).binds (ps:=["self","question","thing","known"]) (fun _ _ _ _ _ _ us hl=>Vp us hl fun _ _ _ _=>rfl),
   ao (st:=aR) h2n h2o h2p,
   (ao (st:=aR) h2n h2o h2p).binds (ps:=["self","question","thing"]) (fun _ _ _ _ _ _ us hl=>J6 us hl fun _ _ _=>rfl),
   ao (st:=aY) h2r h2s h2t,
   (ao (st:=aY) h2r h2s h2t).binds (ps:=["self","question","thing"]) (fun _ _ _ _ _ _ us hl=>J6 us hl fun _ _ _=>rfl),
   ao (st:=aU) h2v h2w h2x,
   (ao (st:=aU) h2v h2w h2x).binds (ps:=["self","row"]) (fun _ _ _ _ _ _ us hl=>uB us hl fun _ _=>rfl),
   ao (st:=aN) h2z h30 h31,
   (ao (st:=aN) h2z h30 h31).binds (ps:=["self","sheet","thing"]) (fun _ _ _ _ _ _ us hl=>J6 us hl fun _ _ _=>rfl),
   ao (st:=aO) h33 h34 h35,
   (ao (st:=aO) h33 h34 h35).binds (ps:=["self","sheet"]) (fun _ _ _ _ _ _ us hl=>uB us hl fun _ _=>rfl),
   ao (st:=b7) h37 h38 h39,
   (ao (st:=b7) h37 h38 h39).binds (ps:=["self","place"]) (fun _ _ _ _ _ _ us hl=>uB us hl fun _ _=>rfl),
   ao (st:=du) h3b h3c h3d,
   (ao (st:=du) h3b h3c h3d).binds (ps:=["self"]) (fun _ _ _ _ _ _ us hl=>Zd us hl fun _=>rfl),
   ao (st:=eN) h3f h3g h3h,
   (ao (st:=eN) h3f h3g h3h).binds (ps:=["rank","how","number"]) (fun _ _ _ _ _ _ us hl=>J6 us hl fun _ _ _=>rfl),
   h3h,
   W.mg_of X G h3e,
   ao (st:=bu) h3j h3k h3l,
   (ao (st:=bu) h3j h3k h3l).binds (ps:=["span","how","number"]) (fun _ _ _ _ _ _ us hl=>J6 us hl fun _ _ _=>rfl),
   h3l,
   W.mg_of X G h3i,
   ao (st:=aK) h3n h3o h3p,
   (ao (st:=aK) h3n h3o h3p).binds (ps:=["self","look"]) (fun _ _ _ _ _ _ us hl=>uB us hl fun _ _=>rfl),
   (xJ (st:=cF) h3r h3s h3t h3u),
   (xJ (st:=cF) h3r h3s h3t h3u).binds (es:=[]) (fun T _ _ _ _ _ _ us M A E Q s to n ht hc hd hl hq=>Vp us (oR (m:=4) hl rfl) (fun _ _ _ _ hq=>BindsTo.of_defaults rfl ht hd rfl rfl M A E Q hq) hq),
   (xJ (st:=cF) h3r h3s h3t h3u).binds (fun T _ _ _ _ _ _ us M A E Q s to n ht hc hd hl hq=>J6 us (oR (m:=3) hl rfl) (fun _ _ _ hq=>BindsTo.of_defaults rfl ht hd rfl rfl M A E Q hq) hq),
   .cons rfl (.nil),
   ao (st:=dw) h3w h3x h3y,
   (ao (st:=dw) h3w h3x h3y).binds (ps:=["self"]) (fun _ _ _ _ _ _ us hl=>Zd us hl fun _=>rfl),
   ao (st:=cG) h40 h41 h42,
   (ao (st:=cG) h40 h41 h42).binds (ps:=["self","kinds"]) (fun _ _ _ _ _ _ us hl=>uB us hl fun _ _=>rfl),
   ao (st:=dO) h44 h45 h46,
   (ao (st:=dO) h44 h45 h46).binds (ps:=["self","look"]) (fun _ _ _ _ _ _ us hl=>uB us hl fun _ _=>rfl),
   ao (st:=aZ) h48 h49 h4a,
   (ao (st:=aZ) h48 h49 h4a).binds (ps:=["self","name","how","number"]) (fun _ _ _ _ _ _ us hl=>Vp us hl fun _ _ _ _=>rfl),
   ao (st:=bw) h4c h4d h4e,
   (ao (st:=bw) h4c h4d h4e).binds (ps:=["self"]) (fun _ _ _ _ _ _ us hl=>Zd us hl fun _=>rfl),
   ao (st:=aV) h4g h4h h4i,
   (ao (st:=aV) h4g h4h h4i).binds (ps:=["self","kinds"]) (fun _ _ _ _ _ _ us hl=>uB us hl fun _ _=>rfl),
   ao (st:=bM) h4k h4l h4m,
   (ao (st:=bM) h4k h4l h4m).binds (ps:=["self","look"]) (fun _ _ _ _ _ _ us hl=>uB us hl fun _ _=>rfl),
   ao (st:=cH) h4o h4p h4q,
   (ao (st:=cH) h4o h4p h4q).binds (ps:=["self","test"]) (fun _ _ _ _ _ _ us hl=>uB us hl fun _ _=>rfl),
   ao (st:=cQ) h4s h4t h4u,
   (ao (st:=cQ) h4s h4t h4u).binds (ps:=["self"]) (fun _ _ _ _ _ _ us hl=>Zd us hl fun _=>rfl),
   ao (st:=b8) h4w h4x h4y,
   (ao (st:=b8) h4w h4x h4y).binds (ps:=["self","kinds"]) (fun _ _ _ _ _ _ us hl=>uB us hl fun _ _=>rfl),
   ao (st:=dB) h50 h51 h52,
   (ao (st:=dB) h50 h51 h52).binds (ps:=["self","look"]) (fun _ _ _ _ _ _ us hl=>uB us hl fun _ _=>rfl),
   ao (st:=eO) h54 h55 h56,
   (ao (st:=eO) h54 h55 h56).binds (ps:=["box","kinds","question","k"]) (fun _ _ _ _ _ _ us hl=>Vp us hl fun _ _ _ _=>rfl),
   h56,
   W.mg_of X G h53,
   ao (st:=fU) h58 h59 h5a,
   (ao (st:=fU) h58 h59 h5a).binds (ps:=["number","low"]) (fun _ _ _ _ _ _ us hl=>uB us hl fun _ _=>rfl),
   h5a,
   W.mg_of X G h57,
   ao (st:=iz) h5c h5d h5e,
   (ao (st:=iz) h5c h5d h5e).binds (ps:=["atom","low"]) (fun _ _ _ _ _ _ us hl=>uB us hl fun _ _=>rfl),
   h5e,
   W.mg_of X G h5b,
   ao (st:=bN) h5g h5h h5i,
   (ao (st:=bN) h5g h5h h5i).binds (ps:=["self","paper","box"]) (fun _ _ _ _ _ _ us hl=>J6 us hl fun _ _ _=>rfl),
   ao (st:=bc) h5k h5l h5m,
   (ao (st:=bc) h5k h5l h5m).binds (ps:=["self","question","thing","cut"]) (fun _ _ _ _ _ _ us hl=>Vp us hl fun _ _ _ _=>rfl),
   ao (st:=aW) h5o h5p h5q,
   (ao (st:=aW) h5o h5p h5q).binds (ps:=["self","sheet"]) (fun _ _ _ _ _ _ us hl=>uB us hl fun _ _=>rfl),
   ao (st:=cR) h5s h5t h5u,
   (ao (st:=cR) h5s h5t h5u).binds (ps:=["self","question","thing"]) (fun _ _ _ _ _ _ us hl=>J6 us hl fun _ _ _=>rfl),
   ao (st:=bz) h5w h5x h5y,
   (ao (st:=bz) h5w h5x h5y).binds (ps:=["self","name","thing"]) (fun _ _ _ _ _ _ us hl=>J6 us hl fun _ _ _=>rfl),
   ao (st:=aM) h60 h61 h62,
   (ao (st:=aM) h60 h61 h62).binds (ps:=["self","saying","thing"]) (fun _ _ _ _ _ _ us hl=>J6 us hl fun _ _ _=>rfl),
   ao (st:=bf) h64 h65 h66,
   (ao (st:=bf) h64 h65 h66).binds (ps:=["self","atom","thing"]) (fun _ _ _ _ _ _ us hl=>J6 us hl fun _ _ _=>rfl),
   ao (st:=eQ) h68 h69 h6a,
   (ao (st:=eQ) h68 h69 h6a).binds (ps:=["paper","box"]) (fun _ _ _ _ _ _ us hl=>uB us hl fun _ _=>rfl),
   h6a,
   W.mg_of X G h67,
   ao (st:=dR) h6c h6d h6e,
   (ao (st:=dR) h6c h6d h6e).binds (ps:=["log","box","kinds"]) (fun _ _ _ _ _ _ us hl=>J6 us hl fun _ _ _=>rfl),
   h6e,
   W.mg_of X G h6b,
   ao (st:=eU) h6g h6h h6i,
   (ao (st:=eU) h6g h6h h6i).binds (ps:=["box","question","k","span"]) (fun _ _ _ _ _ _ us hl=>Vp us hl fun _ _ _ _=>rfl),
   h6i,
   W.mg_of X G h6f,
   ao (st:=eV) h6k h6l h6m,
   (ao (st:=eV) h6k h6l h6m).binds (ps:=["box","kinds","question","k","cut"]) (fun _ _ _ _ _ _ us hl=>el5 us hl fun _ _ _ _ _=>rfl),
   h6m,
   W.mg_of X G h6j,
   (xJ (st:=kI) h6o h6p h6q h6r),
   (xJ (st:=kI) h6o h6p h6q h6r).binds (es:=[.none]) (fun T _ _ _ _ _ _ us M A E Q s to n ht hc hd hl hq=>uB us (oR (m:=2) hl rfl) (fun _ _ hq=>BindsTo.of_defaults rfl ht hd rfl rfl M A E Q hq) hq),
   h6q,
   W.mg_of X G h6n,
   ao (st:=iB) h6t h6u h6v,
   (ao (st:=iB) h6t h6u h6v).binds (ps:=["paper","ranges","known"]) (fun _ _ _ _ _ _ us hl=>J6 us hl fun _ _ _=>rfl),
   h6v,
   W.mg_of X G h6s,
   ao (st:=fV) h6x h6y h6z,
   (ao (st:=fV) h6x h6y h6z).binds (ps:=["paper","nodes","known","asked_ahead"]) (fun _ _ _ _ _ _ us hl=>Vp us hl fun _ _ _ _=>rfl),
   h6z,
   W.mg_of X G h6w,
   ao (st:=bO) h71 h72 h73,
   (ao (st:=bO) h71 h72 h73).binds (ps:=["log","word","name"]) (fun _ _ _ _ _ _ us hl=>J6 us hl fun _ _ _=>rfl),
   h73,
   W.mg_of X G h70,
   (xJ (st:=cW) h75 h76 h77 h78),
   (xJ (st:=cW) h75 h76 h77 h78).binds (es:=[]) (fun T _ _ _ _ _ _ us M A E Q s to n ht hc hd hl hq=>J6 us (oR (m:=3) hl rfl) (fun _ _ _ hq=>BindsTo.of_defaults rfl ht hd rfl rfl M A E Q hq) hq),
   (xJ (st:=cW) h75 h76 h77 h78).binds (fun T _ _ _ _ _ _ us M A E Q s to n ht hc hd hl hq=>uB us (oR (m:=2) hl rfl) (fun _ _ hq=>BindsTo.of_defaults rfl ht hd rfl rfl M A E Q hq) hq),
   .cons ⟨_,rfl⟩ (.nil),
   h77,
   W.mg_of X G h74,
   ao (st:=eY) h7a h7b h7c,
   (ao (st:=eY) h7a h7b h7c).binds (ps:=["_law_script","_law_k"]) (fun _ _ _ _ _ _ us hl=>uB us hl fun _ _=>rfl),
   h7c,
   W.mg_of X G h79,
   ao (st:=eZ) h7e h7f h7g,
   (ao (st:=eZ) h7e h7f h7g).binds (ps:=["_law_script","_law_k"]) (fun _ _ _ _ _ _ us hl=>uB us hl fun _ _=>rfl),
   h7g,
   W.mg_of X G h7d,
   ao (st:=fc) h7i h7j h7k,
   (ao (st:=fc) h7i h7j h7k).binds (ps:=["_law_cell_here"]) (fun _ _ _ _ _ _ us hl=>Zd us hl fun _=>rfl),
   h7k,
   W.mg_of X G h7h,
   ao (st:=dC) h7m h7n h7o,
   (ao (st:=dC) h7m h7n h7o).binds (ps:=["_law_kind_here"]) (fun _ _ _ _ _ _ us hl=>Zd us hl fun _=>rfl),
   h7o,
   W.mg_of X G h7l,
   ao (st:=dU) h7q h7r h7s,
   (ao (st:=dU) h7q h7r h7s).binds (ps:=["_law_how","_law_low","_law_high","_law_number"]) (fun _ _ _ _ _ _ us hl=>Vp us hl fun _ _ _ _=>rfl),
   h7s,
   W.mg_of X G h7p,
   ao (st:=fW) h7u h7v h7w,
   (ao (st:=fW) h7u h7v h7w).binds (ps:=["_law_how","_law_low","_law_number"]) (fun _ _ _ _ _ _ us hl=>J6 us hl fun _ _ _=>rfl),
   h7w,
   W.mg_of X G h7t,
   ao (st:=dW) h7y h7z h80,
   (ao (st:=dW) h7y h7z h80).binds (ps:=["_law_found","_law_due_here"]) (fun _ _ _ _ _ _ us hl=>uB us hl fun _ _=>rfl),
   h80,
   W.mg_of X G h7x,
   ao (st:=fj) h82 h83 h84,
   (ao (st:=fj) h82 h83 h84).binds (ps:=["_law_script","_law_kind_here","_law_low","_law_high"]) (fun _ _ _ _ _ _ us hl=>Vp us hl fun _ _ _ _=>rfl),
   h84,
   W.mg_of X G h81,
   ao (st:=dD) h86 h87 h88,
   (ao (st:=dD) h86 h87 h88).binds (ps:=["_law_script","_law_name_here","_law_kind_here","_law_atom_here"]) (fun _ _ _ _ _ _ us hl=>Vp us hl fun _ _ _ _=>rfl),
   h88,
   W.mg_of X G h85,
   ao (st:=fu) h8a h8b h8c,
   (ao (st:=fu) h8a h8b h8c).binds (ps:=["_law_names","_law_known","_law_denied","_law_low","_law_high"]) (fun _ _ _ _ _ _ us hl=>el5 us hl fun _ _ _ _ _=>rfl),
   h8c,
   W.mg_of X G h89,
   ao (st:=dX) h8e h8f h8g,
   (ao (st:=dX) h8e h8f h8g).binds (ps:=["_law_names","_law_atom_here","_law_denied","_law_span","_law_most"]) (fun _ _ _ _ _ _ us hl=>el5 us hl fun _ _ _ _ _=>rfl),
   h8g,
   W.mg_of X G h8d,
   ao (st:=dF) h8i h8j h8k,
   (ao (st:=dF) h8i h8j h8k).binds (ps:=["_law_kind_here","_law_rank"]) (fun _ _ _ _ _ _ us hl=>uB us hl fun _ _=>rfl),
   h8k,
   W.mg_of X G h8h,
   ao (st:=fX) h8m h8n h8o,
   (ao (st:=fX) h8m h8n h8o).binds (ps:=["_law_names","_law_kind_here","_law_nodes_here"]) (fun _ _ _ _ _ _ us hl=>J6 us hl fun _ _ _=>rfl),
   h8o,
   W.mg_of X G h8l,
   ao (st:=xj) h8q h8r h8s,
   W.mg_of X G h8p,
   ⟨_,W.mg_of X G h8t,rfl⟩,
   dH.mod h8u h8v h8w h8x,
   W.mg_of X G h8y,
   ZQ h8z h90 h91 h92 h93 h94,
   W.mg_none_of X G h95,
   W.mg_none_of X G h96,
   W.mg_none_of X G h97,
   W.mg_none_of X G h98,
   W.mg_none_of X G h99,
   W.mg_none_of X G h9a,
   W.mg_none_of X G h9b,
   W.mg_none_of X G h9c,
   W.mg_none_of X G h9d,
   W.mg_none_of X G h9e,
   W.mg_none_of X G h9f,
   L2.fK (by symm),
   L2.fK (by symm),
   L2.fK (by symm),
   L2.fK (by symm),
   L2.fK (by symm),
   L2.fK (by symm),
   L2.fK (by symm),
   L2.fK (by symm),
   L2.fK (by symm),
   L2.fK (by symm),
   L2.fK (by symm),
   L2.fK (by symm),
   L2.fK (by symm),
   L2.fK (by symm),
   L2.fK (by symm),
   L2.fK (by symm),
   L2.fK (by symm),
   L2.fK (by symm),
   L2.fK (by symm),
   W.mg_of X G h9g,
   ⟨_,W.mg_of X G h9g,rfl⟩,
   W.mg_of X G h9h,
   W.mg_of X G h9i,
   W.mg_of X G h9j,
   W.mg_of X G h9k,
   ⟨_,W.mg_of X G h9k,rfl⟩,
   W.mg_of X G h9l,
   W.mg_of X G h9m,
   W.mg_of X G h9n,
   ⟨_,W.mg_of X G h9n,rfl⟩,
   W.mg_of X G h9o,
   W.mg_of X G h9p,
   W.mg_of X G h9q,
   ⟨_,W.mg_of X G h9q,rfl⟩,
   W.mg_of X G h9r,
   W.mg_of X G h9t,
   W.mg_of X G h9u,
   ⟨_,W.mg_of X G h9u,rfl⟩,
   W.mg_of X G h9v,
   ⟨_,W.mg_of X G h9v,rfl⟩,
   p8,
   p8,
   qz ha0 ha1 ha6 ha7,
   qz ha4 ha5 ha8 ha9,
   p8,
   p8,
   qz h9y h9z haa hab,
   qz ha2 ha3 hac had,
   qz h9y h9z hae haf,
   qz ha2 ha3 hag hah,
   p8,
   p8,
   qz h9w h9x hai haj,
   ⟨hak,hal,ham,han⟩,
   fun _ _ _ _ e=>.ins e ⟨hak,hal,ham,han⟩ hao hap haq har,
   ⟨has,hat,hau,hav⟩,
   ⟨haw,hax,h0b⟩,
   ⟨hay,haz,h0f⟩,
   ⟨hb0,hb1,h0j⟩,
   ⟨hb2,hb3,h0n⟩,
   hb4,
   hb5,
   ⟨Zb,hb7,hb8,hb9⟩,
   fun _ _ _ _ e=>.ins e ⟨Zb,hb7,hb8,hb9⟩ hba hbb hbc hbd,
   ⟨hbe,hbf,hbg,hbh⟩,
   ⟨hbi,hbj,h0r⟩,
   hbk,
   YX,
   ⟨hbm,hbn,hbo,hbp⟩,
   fun _ _ _ _ e=>.ins e ⟨hbm,hbn,hbo,hbp⟩ hbq hbr hbs hbt,
   ⟨hbu,hbv,hbw,hbx⟩,
   ⟨hby,hbz,h0r⟩,
   hc0,
   hc1,
   ⟨hc2,hc3,hc4,hc5⟩,
   fun _ _ _ _ e=>.ins e ⟨hc2,hc3,hc4,hc5⟩ hc6 hc7 hc8 hc9,
   ⟨hca,hcb,hcc,hcd⟩,
   ⟨hce,hcf,h1k⟩,
   hcg,
   hch,
   ⟨hci,hcj,hck,hcl⟩,
   fun _ _ _ _ e=>.ins e ⟨hci,hcj,hck,hcl⟩ hcm hcn hco hcp,
   ⟨hcq,hcr,hcs,hct⟩,
   ⟨hcu,hcv,h0z⟩,
   ⟨hcw,hcx,h13⟩,
   ⟨hcy,hcz,h17⟩,
   ⟨hd0,hd1,h1b⟩,
   hd2,
   hd3,
   hd4,
   ⟨hd5,hd6,hd7,hd8⟩,
   fun _ _ _ _ e=>.ins e ⟨hd5,hd6,hd7,hd8⟩ hd9 hda hdb hdc,
   ⟨hdd,hde,hdf,hdg⟩,
   hdh,
   hdi,
   hdj,
   ⟨hdk,hdl,hdm,hdn⟩,
   ⟨hdo,hdp,hdq,hdr⟩,
   hds,
   hdt,
   hdu,
   hdv,
   ⟨hdw,hdx,hdy,hdz⟩,
   ⟨he0,he1,he2,he3⟩,
   he4,
   he5,
   he6,
   ⟨he7,he8,he9,hea⟩,
   ⟨heb,hec,hed,hee⟩,
   ⟨hef,heg,h5q⟩,
   ⟨heh,hei,h5u⟩,
   ⟨hej,hek,h62⟩,
   ⟨hel,hem,h2l⟩,
   ⟨hen,heo,h2x⟩,
   ⟨hep,heq,h31⟩,
   ⟨her,hes,h35⟩,
   ⟨het,heu,h39⟩,
   ⟨hev,hew,h3d⟩,
   ⟨hex,hey,h2p⟩,
   ⟨hez,hf0,h2t⟩,
   ⟨hf1,hf2,h5y⟩,
   ⟨hf3,hf4,h5m⟩,
   ⟨hf5,hf6,h66⟩,
   hf7,
   hf8,
   hf9,
   hfa,
   hfb,
   hfc,
   hfd,
   hfe,
   hff,
   hfg,
   hfh,
   ⟨hfi,hfj,hfk,hfl⟩,
   fun _ _ _ _ e=>.ins e ⟨hfi,hfj,hfk,hfl⟩ hfm hfn hfo hfp,
   ⟨hfq,hfr,hfs,hft⟩,
   ⟨hfu,hfv,h42⟩,
   ⟨hfw,hfx,h46⟩,
   ⟨hfy,hfz,h3y⟩,
   ⟨hg0,hg1,h3p⟩,
   hg2,
   hg3,
   hg4,
   ⟨hg5,hg6,hg7,hg8⟩,
   fun _ _ _ _ e=>.ins e ⟨hg5,hg6,hg7,hg8⟩ hg9 hga hgb hgc,
   ⟨hgd,hge,hgf,hgg⟩,
   ⟨hgh,hgi,h4i⟩,
   ⟨hgj,hgk,h4m⟩,
   ⟨hgl,hgm,h4e⟩,
   ⟨hgn,hgo,h3p⟩,
   hgp,
   hgq,
   hgr,
   ⟨hgs,hgt,hgu,hgv⟩,
   ⟨hgw,hgx,hgy,hgz⟩,
   ⟨hh0,hh1,h4y⟩,
   ⟨hh2,hh3,h52⟩,
   ⟨hh4,hh5,h4u⟩,
   ⟨hh6,hh7,h3p⟩,
   hh8,
   ⟨hh9,hha,hhb,h2h⟩,
   ⟨hhc,hhd,hhe,h03⟩,
   ⟨hhf,hhg,hhh,h1o⟩⟩,mc,mP,nc,nP,mk1,mk4,mk5,mk6,nk1,nk4,nk5,nk6,mn7⟩
theorem walk {l:W.OpenLaw}{q:Program}{loose:List Str}{XP:(Str→Option Value)→Heap→Prop}{YP:World→Heap→Prop}{d:DefRec}{K:Params→W.Frag} (hn:l.most=some 63) (hdf:d.params.defaults=[]) (hnm:d.name="law")
   (hY:∀ (w:World) (h:Heap),YP w h→(K w.params).In h)
   (F:∀ (w:World) (mg:Str→Option Value) (h:Heap),YP w h→(K w.params).In h→h.Ns mainGlobals mg→∃ A:cM,Txt (K w.params) mg A∧∃ c P c2 P2,A.aP.code=.ref c∧W.codeHdIn (K w.params) c P=true∧(K w.params).lookup P=none∧h.get? P=some (W.tabObj #[])∧A.gM.code=.ref c2∧W.codeHdIn (K w.params) c2 P2=true∧(K w.params).lookup P2=none∧h.get? P2=some (W.tabObj #[])∧P2≠P) :
   W.WalkO q loose XP YP l.row.toRowW d [] (fun f vs=>PySem.call f vs):=by
 refine L2.Uv (ps:=d8 DL.qual U7) (pu:=d8 DM.qual Ve) ⟨_,_,_,rfl⟩ ⟨_,_,_,rfl⟩ (n:=63) (k:=40) (x:="_law_script") (CX:=fun _=>bQ) (sp:=fun Pt Pu w=>YG (K w.params) Pt Pu) hn (by decide) hdf ⟨rfl,by decide,by decide⟩ hY (fun w mg fa h Y KX G hmg=>?_) (fun Pt Pu w H a ns hl hb hO hS=>⟨a,ns,rfl,hS,hl,hb,hO.1,hO.2.1,fun _=>rfl⟩) fun _ _ _ _ _ z=>z
 obtain⟨A,T,c,Pt,c2,Pu,m1,m2,m3,m4,k1,k2,k3,k4,k5⟩:=F w mg h Y KX G
 rw [hnm] at hmg
 have e:=hmg.symm.trans T.ago
 cases e
 obtain⟨oc,od,kV,doc,pm,an,cdv,ct,osl,efd,lk,hcd⟩:=id T.abk.ex
 exact⟨c,Pt,c2,Pu,A.WQ,k5,m2,m4,m3,k2,k4,k3,fun s v=>by rw [efd];exact .of_eq rfl,fun base _ _ B=>adB T B m1 m2 k1 k2⟩
end iy
open PySem PySem.W PyProof.Rows
set_option maxRecDepth 100000 in
set_option maxHeartbeats 0 in
theorem PySem.Challenge.cw_askpaper_k61_one_atom_come_to_holds : PySem.Challenge.rw_askpaper_k61_one_atom_come_to.Holds := by
 refine PySem.Challenge.hd61 ?_
 k_fill
 refine iy.walk (l := PySem.Challenge.rw_askpaper_k61_one_atom_come_to) rfl rfl rfl (fun w h Y => W.km_in_of Y) ?F
 case F =>
   intro w mg h Y KX G
   have T : ∃ A : iy.cM, iy.Txt (L2.KOf KX) mg A ∧ ∃ c P c2 P2, A.aP.code = .ref c ∧ W.codeHdIn (L2.KOf KX) c P = true ∧ (L2.KOf KX).lookup P = none ∧ h.get? P = some (W.tabObj #[]) ∧ A.gM.code = .ref c2 ∧ W.codeHdIn (L2.KOf KX) c2 P2 = true ∧ (L2.KOf KX).lookup P2 = none ∧ h.get? P2 = some (W.tabObj #[]) ∧ P2 ≠ P := by
     dsimp only [L2.KOf]
     refine' iy.adF KX G ?h9g ?h9h ?h9i ?h9j ?h9k ?h9l ?h9m ?h9n ?h9o ?h9p ?h9q ?h9r ?h9s ?h9t ?h9u ?h9v ?h00 ?h01 ?h02 ?h03 ?h04 ?h05 ?h06 ?h07 ?h08 ?h09 ?h0a ?h0b ?h0c ?h0d ?h0e ?h0f ?h0g ?h0h ?h0i ?h0j ?h0k ?h0l ?h0m ?h0n ?h0o ?h0p ?h0q ?h0r ?h0s ?h0t ?h0u ?h0v ?h0w ?h0x ?h0y ?h0z ?h10 ?h11 ?h12 ?h13 ?h14 ?h15 ?h16 ?h17 ?h18 ?h19 ?h1a ?h1b ?h1c ?h1d ?h1e ?h1f ?h1g ?h1h ?h1i ?h1j ?h1k ?h1l ?h1m ?h1n ?h1o ?h1p ?h1q ?h1r ?h1s ?h1t ?h1u ?h1v ?h1w ?h1x ?h1y ?h1z ?h20 ?h21 ?h22 ?h23 ?h24 ?h25 ?h26 ?h27 ?h28 ?h29 ?h2a ?h2b ?h2c ?h2d ?h2e ?h2f ?h2g ?h2h ?h2i ?h2j ?h2k ?h2l ?h2m ?h2n ?h2o ?h2p ?h2q ?h2r ?h2s ?h2t ?h2u ?h2v ?h2w ?h2x ?h2y ?h2z ?h30 ?h31 ?h32 ?h33 ?h34 ?h35 ?h36 ?h37 ?h38 ?h39 ?h3a ?h3b ?h3c ?h3d ?h3e ?h3f ?h3g ?h3h ?h3i ?h3j ?h3k ?h3l ?h3m ?h3n ?h3o ?h3p ?h3q ?h3r ?h3s ?h3t ?h3u ?h3v ?h3w ?h3x ?h3y ?h3z ?h40 ?h41 ?h42 ?h43 ?h44 ?h45 ?h46 ?h47 ?h48 ?h49 ?h4a ?h4b ?h4c ?h4d ?h4e ?h4f ?h4g ?h4h ?h4i ?h4j ?h4k ?h4l ?h4m ?h4n ?h4o ?h4p ?h4q ?h4r ?h4s ?h4t ?h4u ?h4v ?h4w ?h4x ?h4y ?h4z ?h50 ?h51 ?h52 ?h53 ?h54 ?h55 ?h56 ?h57 ?h58 ?h59 ?h5a ?h5b ?h5c ?h5d ?h5e ?h5f ?h5g ?h5h ?h5i ?h5j ?h5k ?h5l ?h5m ?h5n ?h5o ?h5p ?h5q ?h5r ?h5s ?h5t ?h5u ?h5v ?h5w ?h5x ?h5y ?h5z ?h60 ?h61 ?h62 ?h63 ?h64 ?h65 ?h66 ?h67 ?h68 ?h69 ?h6a ?h6b ?h6c ?h6d ?h6e ?h6f ?h6g ?h6h ?h6i ?h6j ?h6k ?h6l ?h6m ?h6n ?h6o ?h6p ?h6q ?h6r ?h6s ?h6t ?h6u ?h6v ?h6w ?h6x ?h6y ?h6z ?h70 ?h71 ?h72 ?h73 ?h74 ?h75 ?h76 ?h77 ?h78 ?h79 ?h7a ?h7b ?h7c ?h7d ?h7e ?h7f ?h7g ?h7h ?h7i ?h7j ?h7k ?h7l ?h7m ?h7n ?h7o ?h7p ?h7q ?h7r ?h7s ?h7t ?h7u ?h7v ?h7w ?h7x ?h7y ?h7z ?h80 ?h81 ?h82 ?h83 ?h84 ?h85 ?h86 ?h87 ?h88 ?h89 ?h8a ?h8b ?h8c ?h8d ?h8e ?h8f ?h8g ?h8h ?h8i ?h8j ?h8k ?h8l ?h8m ?h8n ?h8o ?h8p ?h8q ?h8r ?h8s ?h8t ?h8u ?h8v ?h8w ?h8x ?h8y ?h8z ?h90 ?h91 ?h92 ?h93 ?h94 ?h95 ?h96 ?h97 ?h98 ?h99 ?h9a ?h9b ?h9c ?h9d ?h9e ?h9f ?h9w ?h9x ?h9y ?h9z ?ha0 ?ha1 ?ha2 ?ha3 ?ha4 ?ha5 ?ha6 ?ha7 ?ha8 ?ha9 ?haa ?hab ?hac ?had ?hae ?haf ?hag ?hah ?hai ?haj ?hak ?hal ?ham ?han ?hao ?hap ?haq ?har ?has ?hat ?hau ?hav ?haw ?hax ?hay ?haz ?hb0 ?hb1 ?hb2 ?hb3 ?hb4 ?hb5 ?Zb ?hb7 ?hb8 ?hb9 ?hba ?hbb ?hbc ?hbd ?hbe ?hbf ?hbg ?hbh ?hbi ?hbj ?hbk ?YX ?hbm ?hbn ?hbo ?hbp ?hbq ?hbr ?hbs ?hbt ?hbu ?hbv ?hbw ?hbx ?hby ?hbz ?hc0 ?hc1 ?hc2 ?hc3 ?hc4 ?hc5 ?hc6 ?hc7 ?hc8 ?hc9 ?hca ?hcb ?hcc ?hcd ?hce ?hcf ?hcg ?hch ?hci ?hcj ?hck ?hcl ?hcm ?hcn ?hco ?hcp ?hcq ?hcr ?hcs ?hct ?hcu ?hcv ?hcw ?hcx ?hcy ?hcz ?hd0 ?hd1 ?hd2 ?hd3 ?hd4 ?hd5 ?hd6 ?hd7 ?hd8 ?hd9 ?hda ?hdb ?hdc ?hdd ?hde ?hdf ?hdg ?hdh ?hdi ?hdj ?hdk ?hdl ?hdm ?hdn ?hdo ?hdp ?hdq ?hdr ?hds ?hdt ?hdu ?hdv ?hdw ?hdx ?hdy ?hdz ?he0 ?he1 ?he2 ?he3 ?he4 ?he5 ?he6 ?he7 ?he8 ?he9 ?hea ?heb ?hec ?hed ?hee ?hef ?heg ?heh ?hei ?hej ?hek ?hel ?hem ?hen ?heo ?hep ?heq ?her ?hes ?het ?heu ?hev ?hew ?hex ?hey ?hez ?hf0 ?hf1 ?hf2 ?hf3 ?hf4 ?hf5 ?hf6 ?hf7 ?hf8 ?hf9 ?hfa ?hfb ?hfc ?hfd ?hfe ?hff ?hfg ?hfh ?hfi ?hfj ?hfk ?hfl ?hfm ?hfn ?hfo ?hfp ?hfq ?hfr ?hfs ?hft ?hfu ?hfv ?hfw ?hfx ?hfy ?hfz ?hg0 ?hg1 ?hg2 ?hg3 ?hg4 ?hg5 ?hg6 ?hg7 ?hg8 ?hg9 ?hga ?hgb ?hgc ?hgd ?hge ?hgf ?hgg ?hgh ?hgi ?hgj ?hgk ?hgl ?hgm ?hgn ?hgo ?hgp ?hgq ?hgr ?hgs ?hgt ?hgu ?hgv ?hgw ?hgx ?hgy ?hgz ?hh0 ?hh1 ?hh2 ?hh3 ?hh4 ?hh5 ?hh6 ?hh7 ?hh8 ?hh9 ?hha ?hhb ?hhc ?hhd ?hhe ?hhf ?hhg ?hhh ?mk1 ?mk2 ?mk3 ?mk4 ?mk5 ?mk6 ?nk1 ?nk2 ?nk3 ?nk4 ?nk5 ?nk6 ?mn7
     (case h9g|h9h|h9i|h9j|h9k|h9l|h9m|h9n|h9o|h9p|h9q|h9r|h9s|h9t|h9u|h9v|h00|h01|h02|h03|h04|h05|h06|h07|h08|h09|h0a|h0b|h0c|h0d|h0e|h0f|h0g|h0h|h0i|h0j|h0k|h0l|h0m|h0n|h0o|h0p|h0q|h0r|h0s|h0t|h0u|h0v|h0w|h0x|h0y|h0z|h10|h11|h12|h13|h14|h15|h16|h17|h18|h19|h1a|h1b|h1c|h1d|h1e|h1f|h1g|h1h|h1i|h1j|h1k|h1l|h1m|h1n|h1o|h1p|h1q|h1r|h1s|h1t|h1u|h1v|h1w|h1x|h1y|h1z|h20|h21|h22|h23|h24|h25|h26|h27|h28|h29|h2a|h2b|h2c|h2d|h2e|h2f|h2g|h2h|h2i|h2j|h2k|h2l|h2m|h2n|h2o|h2p|h2q|h2r|h2s|h2t|h2u|h2v|h2w|h2x|h2y|h2z|h30|h31|h32|h33|h34|h35|h36|h37|h38|h39|h3a|h3b|h3c|h3d|h3e|h3f|h3g|h3h|h3i|h3j|h3k|h3l|h3m|h3n|h3o|h3p|h3q|h3r|h3s|h3t|h3u|h3v|h3w|h3x|h3y|h3z|h40|h41|h42|h43|h44|h45|h46|h47|h48|h49|h4a|h4b|h4c|h4d|h4e|h4f|h4g|h4h|h4i|h4j|h4k|h4l|h4m|h4n|h4o|h4p|h4q|h4r|h4s|h4t|h4u|h4v|h4w|h4x|h4y|h4z|h50|h51|h52|h53|h54|h55|h56|h57|h58|h59|h5a|h5b|h5c|h5d|h5e|h5f|h5g|h5h|h5i|h5j|h5k|h5l|h5m|h5n|h5o|h5p|h5q|h5r|h5s|h5t|h5u|h5v|h5w|h5x|h5y|h5z|h60|h61|h62|h63|h64|h65|h66|h67|h68|h69|h6a|h6b|h6c|h6d|h6e|h6f|h6g|h6h|h6i|h6j|h6k|h6l|h6m|h6n|h6o|h6p|h6q|h6r|h6s|h6t|h6u|h6v|h6w|h6x|h6y|h6z|h70|h71|h72|h73|h74|h75|h76|h77|h78|h79|h7a|h7b|h7c|h7d|h7e|h7f|h7g|h7h|h7i|h7j|h7k|h7l|h7m|h7n|h7o|h7p|h7q|h7r|h7s|h7t|h7u|h7v|h7w|h7x|h7y|h7z|h80|h81|h82|h83|h84|h85|h86|h87|h88|h89|h8a|h8b|h8c|h8d|h8e|h8f|h8g|h8h|h8i|h8j|h8k|h8l|h8m|h8n|h8o|h8p|h8q|h8r|h8s|h8t|h8u => k_is)
     (case h8v => rfl)
     (case h8w => exact Nat.le_of_ble_eq_true rfl)
     (case h8x => exact .cons ⟨_, rfl⟩ (.cons ⟨_, rfl⟩ (.cons ⟨_, rfl⟩ (.cons ⟨_, rfl⟩ (.cons ⟨_, rfl⟩ (.cons ⟨_, rfl⟩ (.nil)))))))
     (case h8y|h8z => k_is)
     (case h90 => rfl)
     (case h91 => rfl)
     (case h92 => rfl)
     (case h93 => rfl)
     (case h94 => exact .cons rfl rfl (.cons rfl rfl (.nil)))
     (case h95|h96|h97|h98|h99|h9a|h9b|h9c|h9d|h9e|h9f|h9w|h9x|h9y|h9z|ha0|ha1|ha2|ha3|ha4|ha5|ha6 => k_is)
     (case ha7 => rfl)
     (case ha8 => k_is)
     (case ha9 => rfl)
     (case haa => k_is)
     (case hab => rfl)
     (case hac => k_is)
     (case had => rfl)
     (case hae => k_is)
     (case haf => rfl)
     (case hag => k_is)
     (case hah => rfl)
     (case hai => k_is)
     (case haj => rfl)
     (case hak|hal|ham|han|hao|hap|haq|har|has|hat|hau|hav|haw|hax|hay|haz|hb0|hb1|hb2|hb3|hb4|hb5|Zb|hb7|hb8|hb9|hba|hbb|hbc|hbd|hbe|hbf|hbg|hbh|hbi|hbj|hbk|YX|hbm|hbn|hbo|hbp|hbq|hbr|hbs|hbt|hbu|hbv|hbw|hbx|hby|hbz|hc0|hc1|hc2|hc3|hc4|hc5|hc6|hc7|hc8|hc9|hca|hcb|hcc|hcd|hce|hcf|hcg|hch|hci|hcj|hck|hcl|hcm|hcn|hco|hcp|hcq|hcr|hcs|hct|hcu|hcv|hcw|hcx|hcy|hcz|hd0|hd1|hd2|hd3|hd4|hd5|hd6|hd7|hd8|hd9|hda|hdb|hdc|hdd|hde|hdf|hdg|hdh|hdi|hdj|hdk|hdl|hdm|hdn|hdo|hdp|hdq|hdr|hds|hdt|hdu|hdv|hdw|hdx|hdy|hdz|he0|he1|he2|he3|he4|he5|he6|he7|he8|he9|hea|heb|hec|hed|hee|hef|heg|heh|hei|hej|hek|hel|hem|hen|heo|hep|heq|her|hes|het|heu|hev|hew|hex|hey|hez|hf0|hf1|hf2|hf3|hf4|hf5|hf6|hf7|hf8|hf9|hfa|hfb|hfc|hfd|hfe|hff|hfg|hfh|hfi|hfj|hfk|hfl|hfm|hfn|hfo|hfp|hfq|hfr|hfs|hft|hfu|hfv|hfw|hfx|hfy|hfz|hg0|hg1|hg2|hg3|hg4|hg5|hg6|hg7|hg8|hg9|hga|hgb|hgc|hgd|hge|hgf|hgg|hgh|hgi|hgj|hgk|hgl|hgm|hgn|hgo|hgp|hgq|hgr|hgs|hgt|hgu|hgv|hgw|hgx|hgy|hgz|hh0|hh1|hh2|hh3|hh4|hh5|hh6|hh7|hh8|hh9|hha|hhb|hhc|hhd|hhe|hhf|hhg|hhh => k_is)
     (case mk1 => rfl)
     (case mk2 => k_is)
     (case mk3 => rfl)
     (case mk4 => kernel_rfl)
     (case mk5 => kernel_rfl)
     (case mk6 => exact W.km_tabs_of Y _ (by repeat (first | exact .head _ | apply List.Mem.tail)))
     (case nk1 => rfl)
     (case nk2 => k_is)
     (case nk3 => rfl)
     (case nk4 => kernel_rfl)
     (case nk5 => kernel_rfl)
     (case nk6 => exact W.km_tabs_of Y _ (by repeat (first | exact .head _ | apply List.Mem.tail)))
     (case mn7 => decide)
   exact T
