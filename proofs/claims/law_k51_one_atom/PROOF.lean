import PyProof.Rows.All
import OpenK.KLine
import OpenK.KWalk
import OpenK.KRaise
import Open.Line
import Wide.Line
import KE.IntBitsLaws
import KE.KIsAll
import KE.KTryMore
import KE.KNest
import KE.KNestM
import KE.KLam
import Wide.FinOn
import Lean
import PyProof.EqAt
import PyProof.EqKinds
import PyProof.TupleCall
import PyProof.ZipIter
import PyProof.Rows.ZipGen
import PyProof.EnumMake
import PyProof.EnumFor
import PyProof.EnumStmt
import KE.KDictOf
import PyProof.AttrMissHeap
import PyProof.NeKinds
import KE.KItem
import KE.KDictSum
import KE.KSortTup
import KE.KEqDict
import KE.KRevSl
import KE.KTabExpr
import KE.KPairComp
import PyProof.DictItems
import KE.KDictList
import PyProof.ListRange
import KE.KRevIter
import PyProof.Rows.TupDisplay
import PyProof.TupleKey
import PySem.Challenge.RW_askpaper_k51_one_atom
local macro_rules
 | `(‹$x:str›) => `((PySem.Str.ofString $x))
 | `(‹$x:ident›) => `((($x).mono (by first | decide | omega)))
 | `(‹0›) => `((by first | exact Or.inl rfl | exact Or.inr rfl))
local macro_rules | `(tactic| symm) => `(tactic| decide +kernel)
set_option Elab.async false
set_option linter.all false
set_option maxRecDepth 100000
open Lean in
local macro_rules
 | `(command| #print $s:str) => do
  let r := s.getString.toList.foldl (fun (r : Nat × Nat × Array Nat) c =>
   let n := r.2.1 * 62 + (if c.isDigit then c.toNat - 48 else if c.isUpper then c.toNat - 55 else c.toNat - 61)
   if r.1 == 10 then (0, 0, r.2.2.push n) else (r.1 + 1, n, r.2.2)) (0, 0, #[])
  return mkNullNode (← r.2.2.mapM fun n => do `(command| def $(mkIdent (.mkSimple s!"tw{n}")) := Nat))
namespace PySem.W.Fast
#print "BuoxP8xKMjQBva73jlksgEBwYiGbGyH1IBwumcstFiZLBzG3ujGpF9KC1LI0ZU9pe5C26RCIhU9RmC2vPFvjREWiC3ipWzz9qP3C4fywscI9S407Uq6jfOY76C5xNaPJUKW3C69O2KsaGyBC6Ctn87k94b1DAr3VwRfiGCADOqZ3rxlyCBvXUAx5xVjCCmrw4UtUIcCCnKW4cvhRGCCui5hGuBO3CCxshOUmUBcCDSu40VEX9kCDmz8oG46SeCE1X4HooV9gCELgz6lmzbyCEfflqe8Mw3CFEnKauKz731DyUTstlGsXCHfxBkLMDRm1EAmn8kj5k0CK91K6ysFewCKIMS8TDXFcCKPg7tvoGU0CML6j1SCMEUCMQC0KR8859CO9WbrsvIvGCPoznORBvjZCQBR4DjHqr41F5BFvZlTHECRHbFYDbsuwCRhva1bBMIE07jD3tlIpebCSvbvJhbEyrCTV265M2Id5CXr69LKXCh9CZRyzNOoexSCZwTPeKU9SSCa9Ng6cFjfuCala51Qwg13Cbxsh9VDQ85CcQVFCIdKSQCciMdNZlZt1CcxPay99SMTCd0gQS70NR6CfV9J3ApRbUCfzdk6cp4kjChnqt3tpuJ5ClEuoIWyREhCms7Wj3tjw5Cn6tIeg9xGSCqLDOSukhDkCryPtNNlHDCCs9yqYym7A3CtB1oC4GFQ3CvX9nruJKJWCxfZjlt5eEkCyp7RJFAvL5CypNSCSXHojCz9M9AJrLTWD1QIQp1KVPiD2E0cD8YL7P1Ir52rL5TPBD4OhYY14cbYD4um9sS0j0kD5OOZboPFpSD5Q35cmxDxWD5Vv2twedFwD7FLkQR7PZWD8MJZmsj8WyD9RRu6GDRpDD9eh2x3goCED9lKR54j3eHDAZDGxoUGrlDDeW5AIIeg8DGZRmH15HlWDGtg09TGqciDIule9iihFV1KXHYi7ZqVeDJqlFIgc5LsDKIGkT6UP72DLLE651vRYUDLj0KqUEOySDMGR8OQpm4wDN0wKOcjRZqDNhGk2Ogs2aDP10vy3uy6pDPCMd5F9UJlDRJIJ0XySg2DTUrLVBUvSR1LYNC0IOaotDUfQkFmaqUtDVLDQqrO5uIDW063awCR9LDWRG4R0o8G5DXpqD0UJ1q7DZ3tWPfCkAjDb3ELp8Ssy9Dc90ndqjVkjDcgOR7VbQ0pDdQlZfdV3KQDeCivu0RMaJ1MlayGlARMADh8K2QGIC0tDhn0KTAb4AtDiFhGZI1WYADjgKl84gF1jDkG9eHgAwi6DnVuJ3ULBawDoyIIuzbQZSDqofcOVmodaDr7dlnzmNWwDshi9sZfEO1Dvd0072yykYDvnpZ64AM5VDwDUaamFg4lDwRK3BUrDpQDwZyq2sYTzNDy0aZkcWmzhE0x7PyswwQ6E3ecoFJRWjG1PDnWEc4y6FE5T9LR4nijLE6F1VrBenvXE6YEgSv1EIIE6tYH2MW8OTE7cbCxwDDTBE7tBPViSohaE82P88dEpCkE89MOdcwbFuEA67ozRPceGEBrSMuolSZmECX2rtvb68m1QAusYKlNTPEFL5MVm4OCIEGKX2KgGwrBEGWKH0Nciv2EHZleWl8MvZEHj5xJ7ACB0EI7xgFaSmtEEJIYgFCAbULEK2zGeiUi3rEK7hhasUEGsEKu6zWCIoKa1Qy8fToemi4EMkX4UjnMBFENBR3movymCENkvrgg2HpZEOUHpQBn2kYEPQLkWsaRK8EQdX6pVUWnqEUNjof0OOEdEWCKbzYoNXYEWRIthVDWGeEY0banLLZSj1SDugb2jHya1SP75ZxTo6jEa8feqKJUtkEbZ8kRNF33BEcIGDfoO0ewEeathN2JruBEegpHxDWSZgEfl83Rm4u2uEgLR89YSifhEgawfwXHpmS1TEoyTqTTQ6EijtbHdGeGYEjpJzYzFEYOEkObZ1aju1vEkjG4JRy5maEl0r01lny0kEltEZo6x7zuElyiN5hswLOEnRSpjl3yzqEnvh2WvMtEpEqi0gYFYwblErfgoCJvetF1UCegWPwRzTEsWeM13oauLEu3my6mGr7yEu9o1C4YBquEuKmC5SNvopEuT6K4KK1y1EwZBri2seVNEz1bFXAnmJZ1V7AAdpnkx1F3xLZOfd9ecF5JurbhcHsTF8AA13w2wpZFA8T2lrqOyWFArOao3UzpkFBC73px59qhFD2QgTHgvjWFEhQ26hxmcgFH3xUidgOvlFHZAzb0mNgBFIdd2wgFxa3FJGlUXW4idmFKcTwIXWhoXFKjvD1GChZSFL1f0eC8AMoFNLJqR4jC49FNXlrq7fxGiFNm0Vx5tfrQ1XUxwGlvyvuFP0TAw4AQCYFPDQTvdmY2QFPNCOZ2y6DwFSekOUUy7GH1XsHw7XXwBT1XsOmmZYmxqFTkaucKf8RMFUDVVrLWeE3FW8aqecaS7rFXIIwQxytyVFXdAQm0ikhjFY6xLU2kjx0FYBd4OOtvsyFYHAwz2GHeeFahZOa8ivA71Yk24dlQzMvFbSTeRhg5zPFbwrInnDNE21Yr1a3bGGcMFeR5iQzozP8FeXSU6wfF6pFgCnxA20FCfFgmyoXBcGMHFhWXoAXN8pFFiThPD3eMHeFncuoIAGZUIFnvb3JuefFE1a8Qml00S2YFqIql6yTWjYFqtnEHKbYnM09qaO4IP5DaFsud9iSQCZJFw0WHzGLSjfFw1yN0LI2rXFwm7XTbPSAbG1TDTd9H1cr1bmRTV3AAzkG6LAxDwiSZFG8eLENh6YLzG8zcepAMkBoG9lsn9vTHngGAjbsno6HynGEJDMewYug4GF7fMUutLmRGG3Qu0DzVfl0A6PsKkNbjrGKM6S2cC0QMGL4f4bDEvZBGNQdqGRI3M0GO0OyQ0kvI5GRVwkJ7u5MlGSpD2YrbIQ0GSpU821ZG4pGSuKDXOLRW61eCbuXHMa7PGVEGMWfebcnGWUdmzmCKbrGWoeJZizT8BGXt9jX9HiFzGZucm1BuFQCGaosVlTZcDRGbuhylDsXuQGcHk9hnB95nGeb0vOsi4PFGfobnHlWZEkGfvdN23wgZBGg8kkc6PCLYGhYiDEsiIoiGj7CeNkxOPDGjbETooNaoHGooM8cqJFqSGpV3Avx58C6GqV5T5sN0HmGrLgtFRcio5GrnfvKpnhKrGs45OZkHrXnGsXvVkABVZeGsvRiJ5GKYFGt6A8Lj66DkGvmolRwepovGvnMTa9IRpuGwUXhMFwRnhGwwfBrO588vGyNAQaAfPo71hFJQdOsZBXGyegGbmlsET1hNOmu96gcAH2duRLtBxU4H3Msj0KCTEHH4hsmOZQAzLH8ld40HfpxEHAE4C8TwsZKHBuxeFDT3SxHCiyD2tLswaHCstLa7eXKBHDJkOc3cBQTHFY2b1h2HtkHFvjatpgEapHGrhqHdtbPTHIDO2IR3RH0HIq3VGelAPvHJ7NVmpxatqHJfzv1FW8poHLMAOjFCKc31jXNNrNwqwvHMpfctM83lAHNsBcUwr1r7HOO42eosqPIHSnrhyqtQnfHUUzPPXard61kW2U5SqLuMHVPN5rgjI1xHW4LAOCye1ZHWsrY5rvMDxHXVwkXsXWOtHY2Vt7InPbb1kqvw112ZYqHbQZroY14hAHcmBAxul2szHhYGa10dfpbHkWYEEV0fPyHkozVfYJHKKHmNSSkRS1ceHnM8dG4oUpO1mPeyu2jJ6l1mgzV3mCDNWHrlFAAAlu8EHst4FJ64sfbHtN7vuLgGWiHtYz7Kpe16RHuqv9ssVcQrHveO5yRD9UtHwzRT3ppPKS1nWsVftuS8cHzoqD9yJrZ9I1W4oEy6oX00BBLHQsKTb1I31AKJ5xZ1oI3nmdkSwYLjI4kFHAuMJ8uI5Z1OUbmLomI626R5YdErVI79LVOPaqF8I82OYEV9DrPI8kBxCYxAdIIAKdfvkjDEPIBLOn8OBxAmIBctjVObELSICycacdpmkLIFWMjG0cANlIIWJmw0rgFoIIwNWWxGtb3IKMOTE25kxtILWzfl4jscoILfHtHFcs5pILiL4NqqrRFIMDHfQhgSYcIOMjoRg9V37IPmDA4NzMW8ISxG9ZNh3F21qVcYiLMhQd1qWWqNzVJk81qedwyMBEX30BTR8EsVtShIVyAEla2gqOIXf40qsqPUbIYaVsjvEQaf1rS8nGgQTJnId9Gn7N0WNDIdxLSubfiTJIe1PZZgd4lhIe9plmlJubaIgAYUWZPhMnIhl4zSfd8f5IhtC4SlyQ6eIhwlvQ775jrIiL6DyOTJ7CIiXlPP1hMYWIix0l6wuL4BIkYS9EYQrfrIlAx4YYaXQlIm7mKMqBcQ5ImEfmYWZz3JIn9pXTMmNscIniA4tjkPEZItmNhUEJ3QIIwNxTabh9BsIxGHIkh4p9xJ0oF79qZtaoJ15JbFXuNGvJ3N9DXScc5oJ7pBGDQGN6KJ8Flb3UlNwYJ8SMczGF02fJAUemeHm2lSJCMw39iN0p4JDm1ZPhOkUBJDolRfT9nN1JFbqH96Sw0OJFj8J6oc1kJJG1vRAc7vHAJGFznMc5Q7tJHMXgCZTzYfJJGXkEfzze3JJGZNxKItUv1vpxxKUZkBxJKQkvYBl729JNf3Vc3cd21JPOA7FIpBvwJPcp7gHHijXJPzg1PYLpkbJSkwaSUrafvJSqOiuIQOjn0C4q2WNMItCJU5cEISFXqHJUchcM0Mgoq1wx6wN1oDynJVzrD7R6GFFJWa9cdm6fxkJX9tJ09tgKQJXzidOdTZ7BJYkBF1gJfB0JZ1i1PS2Or51xNMXk3SG7EJa2Gq4TFEeoJcr7ex4WvX5JdJG7xNyBZ8JdpbHdy2W4JJe9IQFtIuuVJguuJZx3L88JhQFE0EZh4vJj6x2up8imjJnaJ3EGPvggJqHtBXTzla6Jr8IfxwYx8iJt38bsasJcSJvC3FKxcHN1JwMHK439QR4Jxix6XR5KARJzFDDrpEY4o1zvWwnbQGziJzdzrfnyTXSK0vGVgaUxxEK0xAlcPGElHK10VCUUl24cK5WneBlYRPdK79Kx3hk3jS20xg1IjsBNTKArEfR1Xx9KKCdhcNcsyeIKGwkCmrdOn9KH3CTvFqqf0KIEC4qwkpFvKJlEssQxNxX21zoUZDxFMo22AlijbvM9kKNZTFFLwp7pKPlHME0AZqiKQmuL3rnj1qKQnJDPIYUngKRjFrdwvtGQKSUS1aQv2FbKSiK1KqkYuCKSs8E9871ha22xFeuS3bTDKUABjPVyvOmKVAM6Zrz96yKVKHFIfExQl23EpAz8GLnD23FxjLpUW0eKX8tOAGP5oeKXcn7vyfxjHKdyNZNO4QAEKehqASip4IiKfSw7nHDDhS24BgTYzrImuKgA8ajeL8zr24ErWCJ4BmoKgWmW6NFSQsKhCJF6SCuIWKi4spNGak6VKiI3zKsOyoSKjRIOtqHBZqKjXdrX7ZOBHKkEBNTwz8arKlj2SQ2ndChKnMbPD9kMuTKnP7av7ZejfKnqcaXlMg4JKph1krHjpXiKs3pYfKgyNXKsCXUfJwgaPKtSod9Z2O9kKvSdjo9ZyfqKwEUXbPT4ObKyNUIWj5nRq262vYwsqke3KylqlflcqqlL0ebYqsqLBhL3Bkfc6KU0bL5kWlTA3IuqL69J8Y9EiFhL9hSsXN0O6mLAsgyaUeYyyLC8wKx0CRmqLCtjxhkJQyRLD13xLx5CtuLDd8yIT5lj0282qHycb13TLIf9nziCv0LLJud40udP3kLKEAW7tjVYkLKtFz78vlTkLLDuh7OR1tXLMWAOPTO34jLNQM9ReB3eNLPReXVPl9DVLPsDefZGsW3LQBaOiR6klC28qXBmVUYCsLRMJrYNO0MGLRzHRiQGYRjLShtrdKLg84LTXq6YT1W9WLUpc0qu3cGmLUyDSsk3IFgLVPfmqwzbnQLVWb42h0Z0nLW069u2wA5tLWdK0QOjg8hLXUmhGa3scGLY3cDG5ifXGLYIQ4ipFI7ILZm7oPLN4Gh29ywOc1pl8ELciClCqJVyO2AFYIzI9u4lLf4P5NoQDAFLfuV5QYCJlvLfzV9kFKW5gLhMlCkL1uv8LhbAPvAlPchLj2XDdPh2MCLkvXd6yiMHX2AxG1QnYuYtLlegP1plSw9LmV4sKT1bcgLoIO7xAprpQ2BHBQEEzrRFLpNrD1APIzuLquAfWRo3S62BWr2y67jeLLt4nglxo4zLLtlAUaxlLzoLvwnt7cdbO7LwOS4vABi95LxIhHkgbKa0Lxgi7AWWQA4LxiE7OLtxWQ2CZ0zyW75eV2DWXM10Xj072F5WEpvXkvu0E3qNAFjxYH2JSeiKT5KBk2MSkZ4oWl0l2Nl5G4Ha2Mi2NpO3TNpoxs2O6pijxqCOH2OTIFCHDT6E2OqoWmlPTFG2QUQKSYDaCt2RQH7W23PoM0FWtHL1krfq2WWkrkzEMUi2WzZKowyEql2YzVeUel1Js2ZDknRrXKye2ZKuwRplXJy2aFhvhit9bQ2eKieO50AeI2fg116sdxRf2i25HLqVZeZ2ktgRnOD4Q52lF9JQLZPss2lrmT4oGr7r2mgOpPUvYHj2r6Yzsh6lCF2r8LRlW2GeY2rSIBwlsjjJ0HovO7pO9I62vw72ZRmQZX2xHYxick6q50IUPikeRyed2zHDwQ6Ibew0IXtGAX6jYP30oOyfmPWYq31M5QnC1w7x31OyaKGdAxt0IkuhcveSXQ31fTo32MscP32O6GtLqYzH32z4QYJYdCL34tfptqrtl936SNM3rmoYB37O1tZxetq4390QzBTwoD701xpsiiuhRz3BAMZoDU7D03BemsNGu4E33CH2GmigMqp3CgETlDjniH3CiXePN9BUp3DR3zY7GRTz3F93GauGIxf3GBEsDKI3uW3GbE4DALlKV3IGxPNuzDnC3IopkuLxhAn3JPKgnGCw2q3MXnEFp2RY53OSy5vlYmY53RRco1kPh503Tc3Lz8PkJ83VGATVlqKOv3VXSEEd43dC3VwGx4CxUIb3WLU817ubfs3Y2Aqeqe84p3Yd7VuMaxTl3YepukZiPFd0M62EXcTA8W3bgMcmDKOxf3bnqRQDUHlx3deNJ2Bu0ev3deQt4Zxxsv0Mb7KaiSkIU3eiEOKPzppe3eqiTMydHga3gTACtLzuXl3gTmk3ew0003hHY2Y5VWZl3hnGzmAI0SA3iBITyy17XC0N5A5vsv3Am3kknd2fJ6k53lbtUuOuJWL3mFzGrwWUiv3mUOhlMvEzz3q2s46pw79z3rJT658ct4J3rdWDtJKaq93s1HXJv2gbs3uKHQGWz9BR3wpODmI2tip3xXPtiBkZ0Q3xp2YwGP5kd3xsE1wihvwT3y1RKVqIk6l3zXWiTJnlGO3zsM4i7qaWJ41KfXlnEd3m42leB0e7tNt42yxRAvEdFE438yJ4hmo3543TxxvNyYQM43YU0QoO6Hi43qQus8gTnR45YkAlBD3Iu46PrkOKAXRD48oe6qyDfeK49GDxynZ0L04BH50LoMcun4CMeysupEfl4D92Sm92El74DgK2IxmAQ94EzBRdq9oBI4HFMLZIDgHH4KHh46pn6Bc4NX6gMiUEJB0RCM1X4V5z10RIUL3U6X6T4P34jQ1bYtL4QDiuJlS8ib4Qke4Pg0d7q4Th2xOU7IWy4TmFSgeNH8T4TqcLBQR6Rd4UrXfQ7O1Dn4VJ0jGObKVY4XGrAu8R8HV4aW6upoadfl4eQ5YRzgNYG4eqxLlzUyyc4i2paMXJ6hV4jANku2Krhy4jHLThT6QdZ4kV1i8q461X4lPMd7VTkzh4lRU2CB2DKa0TYY03cRWQo4lleq3JMEkH0TmxZ1nPYkK4nyBpeZDKKZ4ovuWgpL9CF4pDiOEFEAd80Tyq4vFM5Mf4qFLjf8HJKG4qdrsYgaeuL0U9HnbNVM0b4srB4cRM1rN4tQtM7r7wNK4uFlsrKSQKd4vt1CX4vbEX4wXa0W2Ma4s0UgvBB0bJTD4yrpc9thVt64ysouoTCUY24z0ZGFKkM9x4zjcWTQe2pW4zjfY2d6dmL4zs9Acbp3mY500Ns605Ry650yc8SwU0LG52uVySzascu53D2nXOGOoF54VdFSi6BpU54a6VkftUKy55Y9PjRo3pH56FVXigWQdP57qhLMCb4aS03DcgwD1MFb5C8YN5nz03c5CN9uXlQbpg5CPoRzCJ6jn5D3iJ7zzqVI5DdsMTkgjCb5GJCjprN3XZ5HC5xAjyyIi5Kctt2ToHmy5KrhrbQXBcC5KsfPLhGuzV5MPB68jy5Kp5MxHEIDxBCQ5NAfGcy4MMg0XZlUvw4gyo5WZ3S3urcYa5WiFYab9INL5XX7Fswzifh5XgRAvZ3oAL5Y1iCs5eEPJ5YRWIAz0Apy5Z3Mp09G2BQ5aUMBolYbyq0YhaJRpr5tT5bWz2D8aVmH5bjVyz5sjQs5cIeEtxhwcf5dVaQkAbwCV5dgBpaywycA5eioNm6PymK5fP5siSwcyY5gCROgdhLip5gR4j5Kzuz65hPt25VLB7o5iPP0eiMFPQ5k0LCIVK8vJ5kQGAGd55LJ5mtIKm6PKWV0a3UPwjCVF65qPtNGTm2lL5sguwhuYB3v5sp61mGclPb5y3v2xjJblF63WYMNV9NQV65kbfPipXKU66XvjIZe6NF67LZDsZ9xTF67pUO4y9SgO68dKbtpym8H69cjdwKYwzs6CCMmLm4OF86CDVjNpD1Bp6DEGDbVWa2Q6G385chlJkH6Gj96EVUaXu6HFFEKRnedL6HGt7uIvNI16HI4lj40x0H6HhltmnxP4a6IQjIrguP2E6IlJNR3beJD6JeuuMk71XU0dO3rP2qKo26LyxkmAOIpC6M4wshLAPpg6MXBMbgs6fI6OtJhERSQrH6QD0TM58cLd6R1fSuAKqLY6ScTS9ta2la0e4VhskNAjI6SkBPGUt0ZJ6SuyBO22ZT46U7GN975CeW6XLRor3IUTF6Xp2hmaEXro6YC8SvBaYgj6Z0XygYz8nI6aEY2Sr75U16dxphQeYhVr0fEeWSsipf36fFV7BGUXOF6fKvrAQYIPs6gKwhmG8WuB6gNtJ9HtMnw6jUJeLeuwtn6jlv2HbbkD60fn7AHz2KUS6kXEuRbLAIW6kukcDYu2cv6lT10fVt6Gc6lot7vZGz5k6m5DKXlEQIb6nFSTDR7Bmj6nb2qR5Mbbl0gI9RVVPJdq6p40PNlhuCC6pFpHwW5jYu0gT00eVTEJ36rixgT6EPj56s8Ow1hTb7g0gg1wozc8cS6soIFaiM0x96tpfrrlXhN76u95WAA9Unz6uTZHkcRctk6vJM74kfFnm6wQrqXpk7iL6wzPhyk740E6x5VJJR1wYv6y0F3HNi22S6yGONIEr0SE6ya9lEdor8272mOQJkVeQY72yg0bNPdVy732X6wUc7gO0ht20ACyO6E0i6CDNrrEZ178nmRdo95Jy79eb8pL8Ugn7AKYpfNY2Do7BG2e496tfi7BcluiCbOdz7D7Qy0P3yU37DnQs76Y6Db7Gs39MUGP0L7HvRHZ89jCN7INQPHyqES27IOqFYPYXio7InTCzSE9oA7JhUC4eW1hC7JiKBYh32K97LMVg4SuzIJ7MYSmjuUgE97MrVOpthUnL7QM72c00jP57RSPg9psCwM7RvvR57FqqZ04dWD1WvWb97Ujh0lOVnZK7Vfrc2PTJFS7VsD90R6azT7YFsLUfP5fo7YYgUODBWzo7YZnGjrHE7b7aoIIXOVvMD7bJPFicyFn40lNlNMW46uZ7eh9Bk9Ncsb7ejBbHB0zOz7erJunM2G7s7fjKDyl3nGQ7gAc8JRM88z7iKjMLbXkHj7iMPcYjTtfX7lORnxRllUN7mZKrwOymOy7qGFb0z7oWk7qNY43wRX337qxm3NgAlXA7rdyvJr7eFx7s2HAmlDbjC7s9jqqFgwql7sm4wA4DKmX7sndCZqV2rq7spKdNobrGb7tRyIW1Abch7toCkg3khMt7uLxbQyNQiQ7uUDmSI5Kmb7va5DUPEiZh7vmuz4qAClO7yq4ckx7Npe7zLJZXpJVbH7zonY7FCCP2815EldU14j181Qlp6fedsn82KRGNfsILI82dknkzx9U582k0bkXiNRT82wwDBbHFrk86YR2LtVxb486gkNscgI0y86q6L2tWkBN0oP8p7BlsZI88hqZFw270o88sTfhloRsg8AyZRegERuG8CSK4igFPqG8EyfsUUIevn8GMBoQi9qv00pMvUpkpOXX8IbDsiXGGRP8IjRWsTdbJu8IqHM6cnq7C8JZZCPVR1bJ8Jl2XzzwD3X8K3yETgMalo8MdwGiUWtN68NKjVjpeWly8PVR6SQrUKt8Qvcd3Y84bh8Su4yYrSLzl0qZY0orLGT48UJnZfG84Q68VFY56OVALg8VlfzEnDW2U8WZT7zz6Muy8Y5cqShHyDZ8ZdDcSkxJtl8ZjwIgGGo038bIOkJnoOgv8bMzD61mnAm8d3kCeiLXR68dM6RXWxOnY8eZuRsDLvNb8gJRgUeUbx48h2FmdetyyN8i1Y5wANjuH8iLLsSQ5bmB0sBC4uE8jNW8kQhv4TCKIm8kooReZKntH8l94XyTNCu08mICBUdIfHJ8o0eB3cs7s78os8UW38DH78qaF1h3U7JE8rcKxxP470L8rhGlXSHtos8sPtgjkKz0r8sYlSOmneNp8upx29efL8p8v1cURcwv4g0tMtpoa3k9p8zjy3J1lOAV8zpfhooV3yc90r6Kg862op91FFkxKjlca91LykLakLOD91uz7WbP6ER93KiJ9cWu6194t0RMDeGfG96DcLoqnwOb97pGSBm22v198FOk7MX4Eh992M0esn8j899jpfRduNcy99k5HKlLqeE9AyiU5RJLQ60uzrQVyGg749CSqB7KAwvy9D9CKZ87JFQ9DCK2gQBZgH9DgQtAJw8N09EiTAks9irW9FTiBYpCgIa0vS20RBOQJF0vcG3y6AaX79IUDlcIcE229IVMDFL2lFI9JpRGXhDvIE9KaHnXTRc6F9KcwMpWk4wG9Mf2mQnCdND9NAZ0vUJhh09QJ2GDKtyZk9Rim0dVx1ZS9Ro39JMnOo39TdLiB4sUPA9UDiAzoTv7k9V2VwagbSX49VX5SeYG7Ot9WVI771SzXa9XcF8ZlCdhZ9Xm9pZ6ZCRJ9Z65BCBz4419ZGsUiaGioO9ZwsKm3l1OQ05xmrMjNf2B9djSlETGwHf9foiYKr9sHl9fqIEmcdSeX9hi6kjT0Af69iNDGAss34F9jeSbGbAWzB9kIE6tUhoPR9khmhgR5SFL9kkoScOkJIX9l2R5BnpWij9nIsTA6C03b9okVCfkfFlG9pZxe9in8iN9sGnN7Pqxk09sK8a6rn4nx9sl5k1F9paQ0zHoVq9VSK89tW0NM6vrEC9tiSMZyHUBk9wQxl8sj0De9wVjli7uqcA9wrwBPIDOvv9xQY2AI0awZ9xy8uRIqsAR9yi0J9vBBRqA18Lfmb9bcGA2NJHtaePkOA2ty0UGPqZUA2zuXUQABzUA3kYcHDEHJRA4Rak9sVFDNA52jQGLPGIDA58VXQv0TJaA68CCUkB9NGA8jpfqoXY23A9sVeGxB0djABUBihAJfdgAD2MkeQAnB5AEcQ9jR1x3CAFYPDXfplhCAGUEdwGDkihAGlDlWgnWePAIVx30dUmZ2AIopyqEgSwzAJ3NJdAxt9lALj51duiiSSANdWk7S568AAO9iAKvqSYyAOkaRxLKb9uAQ0wDYRIe40AQBZ4ABIYUdAS3Ld0pJ4S2AS59AXjCR3CASUI426K91bASfTLtEFYuAASvmRh44lAVAVcTheLg5iHAXsNQ3vZ8J613SsG01vPmH13f9TNHG9SBAav5MwLUjdmAbr0H9XESVHAexXDWvFVTkAgPDwiaUomrAgdJkG4opOOAhNHovujuT9AiGrfYrO5FKAiHZqAapDtTAimeFP2QFqvAiyrhQ3plwpAkDymoLfqHUAkGvbQYXCnIAmOd497DaLzAo7llNeYJ2lAroA7nfpMuoAto59pPowfKAtoedDAOMyxAtp2PZriYyVAuYcFns98HVAvKX7vjGl7RAvV9FMftHaSAxjKbjnvnrXAy57BAxGdsAAy7pvaZaFjgB1lyirWD96xB2ufmYOR34VB3nlQToWUALB3oXNAaxzt7B48MwHz7GuIB59cvh2eygNB6CwdDPtsvt16tcSjMo3QlB7znkYIkkyLB8zJzjDHIS8176ch1e5Hp8B9WoT3JlnP9BA1QTxxCRsI17GOmvThsuKBBV9dqHrcjuBFKg2eTZhzlBGUTFlgOs9pBGUnYJEDeH1BGYixSN7j42BGwVywgWwZABIcRxflBmAOBKNWY8tJvE0BKQWaNDe8N6BM79H42ymHDBNrX0i2RUKTBOpQSLFLf1UBPQ5UlT1caKBPZ1y4kNmsLBTTBVZWYb4ZBYGDwXPEW9iBZBsm18bSsiBa5Vun7ed4QBaTmptnu2g6Bahl9krfj3jBawLj1m0iL9Bbcos7zdvoGBboG6O0Frw6BeVrt56gm2CBfNPwTnEyYPBfl98MCVLvOBglX3kTbrksBgrT8PjBHICBgzOnvperAhBh9S3L3W62YBkeTDzL2ZqSBpKLbEjcWZRBpNrs3ioIMvBq8R5tQ358F1BV9g4QL2pTBrT5P0cFzX6BrXz6VSJDpTBraXA9VxLVkBuExXPGKhRp"
end PySem.W.Fast
open Lean in
local macro_rules
 | `($m:declModifiers $d:definition) => do
  unless m.raw[4].isNone do Macro.throwUnsupported
  return mkNode `Lean.Parser.Command.declaration #[m.raw.setArg 4 (mkNullNode #[mkNode `Lean.Parser.Command.noncomputable #[mkAtom "noncomputable"]]), d]
noncomputable section
section
namespace Hk
open PySem PySem.W
theorem chs {α β:Type}{f:β→α}{l:List β}{γ:Type}{g:γ→α}{l2:List γ}{n m k:Nat} (h1:((l.drop n).take m).map f=((l2.drop n).take m).map g) (hk:n+m=k) (h2:(l.drop k).map f=(l2.drop k).map g):(l.drop n).map f=(l2.drop n).map g:=by
  subst hk
  rw [← List.take_append_drop m (l.drop n),← List.take_append_drop m (l2.drop n),List.map_append,List.map_append,h1,List.drop_drop,List.drop_drop,h2]
theorem ch {K:Params→Frag}{as:List Addr} (e:∀ P,as=(K P).map (·.1)) (w:World) (s:Shared) (x:((((((as.drop 0).take 64).map s.heap.get?,((as.drop 64).take 64).map s.heap.get?),(((as.drop 128).take 64).map s.heap.get?,((as.drop 192).take 64).map s.heap.get?)),((((as.drop 256).take 64).map s.heap.get?,((as.drop 320).take 64).map s.heap.get?),(((as.drop 384).take 64).map s.heap.get?,((as.drop 448).take 64).map s.heap.get?))),(((((as.drop 512).take 64).map s.heap.get?,((as.drop 576).take 64).map s.heap.get?),(((as.drop 640).take 64).map s.heap.get?,((as.drop 704).take 64).map s.heap.get?)),((((as.drop 768).take 64).map s.heap.get?,((as.drop 832).take 64).map s.heap.get?),(((as.drop 896).take 64).map s.heap.get?,(as.drop 960).map s.heap.get?))))=(((((((K w.params).drop 0).take 64).map (fun p=>some p.2),(((K w.params).drop 64).take 64).map (fun p=>some p.2)),((((K w.params).drop 128).take 64).map (fun p=>some p.2),(((K w.params).drop 192).take 64).map (fun p=>some p.2))),(((((K w.params).drop 256).take 64).map (fun p=>some p.2),(((K w.params).drop 320).take 64).map (fun p=>some p.2)),((((K w.params).drop 384).take 64).map (fun p=>some p.2),(((K w.params).drop 448).take 64).map (fun p=>some p.2)))),((((((K w.params).drop 512).take 64).map (fun p=>some p.2),(((K w.params).drop 576).take 64).map (fun p=>some p.2)),((((K w.params).drop 640).take 64).map (fun p=>some p.2),(((K w.params).drop 704).take 64).map (fun p=>some p.2))),(((((K w.params).drop 768).take 64).map (fun p=>some p.2),(((K w.params).drop 832).take 64).map (fun p=>some p.2)),((((K w.params).drop 896).take 64).map (fun p=>some p.2),((K w.params).drop 960).map (fun p=>some p.2)))))):InK K w s.heap:=by
  simp only [Prod.mk.injEq] at x
  obtain⟨⟨⟨⟨x0,x1⟩,⟨x2,x3⟩⟩,⟨⟨x4,x5⟩,⟨x6,x7⟩⟩⟩,⟨⟨⟨x8,x9⟩,⟨x10,x11⟩⟩,⟨⟨x12,x13⟩,⟨x14,x15⟩⟩⟩⟩:=x
  have y15:=x15
  have y14:=chs x14 (by decide) y15
  have y13:=chs x13 (by decide) y14
  have y12:=chs x12 (by decide) y13
  have y11:=chs x11 (by decide) y12
  have y10:=chs x10 (by decide) y11
  have y9:=chs x9 (by decide) y10
  have y8:=chs x8 (by decide) y9
  have y7:=chs x7 (by decide) y8
  have y6:=chs x6 (by decide) y7
  have y5:=chs x5 (by decide) y6
  have y4:=chs x4 (by decide) y5
  have y3:=chs x3 (by decide) y4
  have y2:=chs x2 (by decide) y3
  have y1:=chs x1 (by decide) y2
  have y0:=chs x0 (by decide) y1
  exact InK.of e w s y0
end Hk
open Lean in
local macro_rules
  | `($f:ident $h:term)=>do
    let n:=f.getId.eraseMacroScopes
    unless n == `Hook.obs || n == `Hook.val || n == `Hook.of do Macro.throwUnsupported
    match h with
    | `(($g:ident $k $a $e)) =>
      unless g.getId.eraseMacroScopes == `kHook do Macro.throwUnsupported
      if n == `Hook.obs then `(fun (s:PySem.Shared)=>((((((($a).drop 0).take 64).map s.heap.get?,((($a).drop 64).take 64).map s.heap.get?),(((($a).drop 128).take 64).map s.heap.get?,((($a).drop 192).take 64).map s.heap.get?)),((((($a).drop 256).take 64).map s.heap.get?,((($a).drop 320).take 64).map s.heap.get?),(((($a).drop 384).take 64).map s.heap.get?,((($a).drop 448).take 64).map s.heap.get?))),(((((($a).drop 512).take 64).map s.heap.get?,((($a).drop 576).take 64).map s.heap.get?),(((($a).drop 640).take 64).map s.heap.get?,((($a).drop 704).take 64).map s.heap.get?)),((((($a).drop 768).take 64).map s.heap.get?,((($a).drop 832).take 64).map s.heap.get?),(((($a).drop 896).take 64).map s.heap.get?,(($a).drop 960).map s.heap.get?)))))
      else if n == `Hook.val then `(fun (w:PySem.World)=>(((((((($k) w.params).drop 0).take 64).map (fun p=>some p.2),(((($k) w.params).drop 64).take 64).map (fun p=>some p.2)),((((($k) w.params).drop 128).take 64).map (fun p=>some p.2),(((($k) w.params).drop 192).take 64).map (fun p=>some p.2))),(((((($k) w.params).drop 256).take 64).map (fun p=>some p.2),(((($k) w.params).drop 320).take 64).map (fun p=>some p.2)),((((($k) w.params).drop 384).take 64).map (fun p=>some p.2),(((($k) w.params).drop 448).take 64).map (fun p=>some p.2)))),((((((($k) w.params).drop 512).take 64).map (fun p=>some p.2),(((($k) w.params).drop 576).take 64).map (fun p=>some p.2)),((((($k) w.params).drop 640).take 64).map (fun p=>some p.2),(((($k) w.params).drop 704).take 64).map (fun p=>some p.2))),(((((($k) w.params).drop 768).take 64).map (fun p=>some p.2),(((($k) w.params).drop 832).take 64).map (fun p=>some p.2)),((((($k) w.params).drop 896).take 64).map (fun p=>some p.2),((($k) w.params).drop 960).map (fun p=>some p.2))))))
      else `(Hk.ch (K:=$k) (as:=$a) $e)
    | _=>Macro.throwUnsupported
open PySem PySem.W PyProof.Rows
set_option maxHeartbeats 0 in
open_top PySem.Challenge.hd51 for PySem.Challenge.rw_askpaper_k51_one_atom
end
namespace L2
open PySem PySem.Spec PyProof.Rows
abbrev Key:=Sum Int Str
def Gz:Key→Value→Bool
 | .inl k,v=>Value.isInt k v
 | .inr x,v=>Value.isStrOf x v
def ao3 (w:World):Key→Int
 | .inl k=>hashInt k
 | .inr x=>hashStr w x
theorem yV:∀ {k:Key}{v:Value},Gz k v=true→(∃ i t,k=Sum.inl i∧v=Value.int i t)∨(∃ x t,k=Sum.inr x∧v=Value.str x t)
 | .inl i,v,h=>by
   obtain⟨t,e⟩:=Value.isInt_shape (k:=i) (v:=v) h
   exact .inl ⟨i,t,rfl,e⟩
 | .inr x,v,h=>by
   obtain⟨t,e⟩:=Value.isStrOf_shape (x:=x) (v:=v) h
   exact .inr ⟨x,t,rfl,e⟩
theorem Qi (i:Int) (t:Tok):Gz (.inl i) (.int i t)=true:=by simp [Gz,Value.isInt]
theorem Qj (x:Str) (t:Tok):Gz (.inr x) (.str x t)=true:=by simp [Gz,Value.isStrOf]
theorem Zu (a b:Int):decide ((Sum.inl a:Key)=Sum.inl b)=(a == b):=by
 by_cases e:a=b
 · subst e;simp
 · have h:¬ (Sum.inl a:Key)=Sum.inl b:=fun q=>e (Sum.inl.inj q)
   rw [decide_eq_false h]
   exact (beq_eq_false_iff_ne.mpr e).symm
theorem Zv (a b:Str):decide ((Sum.inr a:Key)=Sum.inr b)=decide (a=b):=by
 by_cases e:a=b
 · subst e;simp
 · have h:¬ (Sum.inr a:Key)=Sum.inr b:=fun q=>e (Sum.inr.inj q)
   rw [decide_eq_false h,decide_eq_false e]
theorem Zw (a:Int) (b:Str):decide ((Sum.inl a:Key)=Sum.inr b)=false:=decide_eq_false (fun q=>nomatch q)
theorem Zx (a:Str) (b:Int):decide ((Sum.inr a:Key)=Sum.inl b)=false:=decide_eq_false (fun q=>nomatch q)
def cz (prog:Program) (w:World):PySem.KeyKind prog w Key where
 is:=Gz
 hash:=ao3 w
 inj:=fun v a b ha hb=>by
   rcases yV ha with ⟨i,t,rfl,rfl⟩ | ⟨x,t,rfl,rfl⟩
   · rcases yV hb with ⟨j,u,rfl,e⟩ | ⟨y,u,rfl,e⟩
     · injection e with e1 _;rw [e1]
     · exact nomatch e
   · rcases yV hb with ⟨j,u,rfl,e⟩ | ⟨y,u,rfl,e⟩
     · exact nomatch e
     · injection e with e1 _;rw [e1]
 byValue:=fun k v h=>by
   rcases yV h with ⟨i,t,rfl,rfl⟩ | ⟨x,t,rfl,rfl⟩ <;> rfl
 pyHash:=fun hv h=>by
   rcases yV hv with ⟨i,t,rfl,rfl⟩ | ⟨x,t,rfl,rfl⟩
   · exact wpAny_pyHash_int h
   · exact wpAny_pyHash_str h
 eqBool:=fun hu hv h=>by
   rcases yV hu with ⟨i,t,rfl,rfl⟩ | ⟨x,t,rfl,rfl⟩
   · rcases yV hv with ⟨j,u,rfl,rfl⟩ | ⟨y,u,rfl,rfl⟩
     · rw [Zu] at h;exact wpAny_eqBool_int h
     · rw [Zw] at h;exact SeqAt.EqAt.int_str i t y u _ _ _ _ h
   · rcases yV hv with ⟨j,u,rfl,rfl⟩ | ⟨y,u,rfl,rfl⟩
     · rw [Zx] at h;exact SeqAt.EqAt.str_int x t j u _ _ _ _ h
     · rw [Zv] at h;exact wpAny_eqBool_str h
 «strs»:=fun k x t v h=>by
   rcases yV h with ⟨i,u,rfl,e⟩ | ⟨y,u,rfl,e⟩
   · exact nomatch e
   · injection e with e1 _
     subst e1
     cases v <;> rfl
theorem Jy (prog:Program) (w:World) (i:Int) (t:Tok):(cz prog w).is (.inl i) (.int i t)=true:=Qi i t
theorem Jz (prog:Program) (w:World) (x:Str) (t:Tok):(cz prog w).is (.inr x) (.str x t)=true:=Qj x t
end L2
namespace L2
open PySem PySem.Spec PyProof.Rows
inductive V where
 | non | bl (b:Bool) | int (i:Int) | str (x:Str) | O5 (b:Array UInt8) | flt (b:UInt64) | ref (a:Addr) | ty (n:String)
 deriving DecidableEq
def RelV:V→Value→Prop
 | .non,u=>u=Value.none
 | .bl b,u=>u=Value.bool b
 | .int i,u=>∃ t,u=Value.int i t
 | .str x,u=>∃ t,u=Value.str x t
 | .O5 b,u=>∃ t,u=Value.bytes b t
 | .flt b,u=>∃ t,u=Value.float b t
 | .ref a,u=>u=Value.ref a
 | .ty n,u=>u=Value.type n
abbrev Vals:List V→List Value→Prop:=Paired RelV
theorem Vals.length {xs:List V}{us:List Value} (r:Vals xs us):xs.length=us.length:=Paired.length r
theorem Vals.get:∀ {xs:List V}{us:List Value}{i:Nat}{x:V},Vals xs us→xs[i]? = some x→∃ u,us[i]? = some u∧RelV x u
 | _,_,_,_,.nil,e=>by simp at e
 | _,_,0,_,.cons r _,e=>by simp at e;subst e;exact⟨_,rfl,r⟩
 | _,_,i+1,x,.cons _ t,e=>by
   obtain⟨u,h1,h2⟩:=Vals.get (i:=i) (x:=x) t (by simpa using e)
   exact⟨u,by simpa using h1,h2⟩
theorem Vals.set {x:V}{u:Value} (r:RelV x u):∀ {xs:List V}{us:List Value} (i:Nat),Vals xs us→Vals (xs.set i x) (us.set i u)
 | _,_,_,.nil=>.nil
 | _,_,0,.cons _ t=>.cons r t
 | _,_,i+1,.cons q t=>.cons q (Vals.set r i t)
theorem Vals.append:∀ {xs ys:List V}{us ws:List Value},Vals xs us→Vals ys ws→Vals (xs++ys) (us++ws)
 | _,_,_,_,.nil,s=>s
 | _,_,_,_,.cons r t,s=>.cons r (Vals.append t s)
theorem Vals.take:∀ {xs:List V}{us:List Value} (n:Nat),Vals xs us→Vals (xs.take n) (us.take n)
 | _,_,0,_=>.nil
 | _,_,_+1,.nil=>.nil
 | _,_,n+1,.cons r t=>.cons r (Vals.take n t)
theorem Vals.drop:∀ {xs:List V}{us:List Value} (n:Nat),Vals xs us→Vals (xs.drop n) (us.drop n)
 | _,_,0,r=>r
 | _,_,_+1,.nil=>.nil
 | _,_,n+1,.cons _ t=>Vals.drop n t
theorem Vals.none_of:∀ {xs:List V}{us:List Value}{i:Nat},Vals xs us→xs[i]? = none→us[i]? = none:=fun {xs us i} r e=>by
 have h1:=r.length
 have h2:xs.length≤i:=List.getElem?_eq_none_iff.mp e
 exact List.getElem?_eq_none_iff.mpr (by omega)
def qp:Option V→Option Value→Prop
 | some v,some u=>RelV v u
 | none,none=>True
 | _,_=>False
def KV {κ:Type}:List (κ × V)→List (κ × Value)→Prop:=Paired fun (p:κ × V) (q:κ × Value)=>p.1=q.1∧RelV p.2 q.2
def kV:Key→V
 | .inl i=>.int i
 | .inr x=>.str x
inductive HO where
 | lst (xs:List V)
 | tup (xs:List V)
 | dK (kvs:List (Key × V)) | dT (kvs:List (List Key × V))
 | set (S:Int→Bool) (n:Nat)
 | ins (C dx:Addr) (fs:List (Str × V))
 | own (x:Addr)
 | xd (fs:List (Str × V))
 | met (f x:Addr)
 | rng (lo hi:Int)
 | sI (o:Obj) (u:HO)
 | mW (ps:Array Value)
 | ext (φ:Heap→Prop)
abbrev Hp:=Addr→Option HO
def upd (H:Hp) (a:Addr) (o:HO):Hp:=fun b=>if b=a then some o else H b
theorem zB {H:Hp}{a:Addr}{o:HO}:upd H a o a=some o:=by unfold upd;rw [if_pos rfl]
theorem zI {H:Hp}{a b:Addr}{o:HO} (h:b≠a):upd H a o b=H b:=by unfold upd;rw [if_neg h]
theorem yD {H:Hp}{a:Addr}{o u:HO}:upd (upd H a o) a u=upd H a u:=by
 funext b;unfold upd;split <;> rfl
theorem yJ {H:Hp}{a b:Addr}{o u:HO} (h:H a=some o) (h':H b=some u) (d:o≠u):a≠b:=by
 intro e;subst e;rw [h] at h';exact d (Option.some.inj h')
theorem zH {H:Hp}{a b:Addr}{o:HO} (h:H a=some o) (h':H b=none):a≠b:=by
 intro e;subst e;rw [h] at h';cases h'
section
variable (P:Program) (w:World)
def cD (H:Hp) (h:Heap) (a:Addr):HO→Prop
 | .lst xs=>xs.length≤sizeLine∧∃ (its:List Value) (n:Nat),Vals xs its∧h.get? a=some { cls:=.type "list",data:=.seq its.toArray n }
 | .tup xs=>xs.length≤sizeLine∧∃ its:List Value,Vals xs its∧IsTup h a its.toArray
 | .dK kvs=>kvs.length≤sizeLine∧(a == sysModules)=false∧∃ vs,KV kvs vs∧h.DictOf (cz P w) a vs
 | .dT kvs=>kvs.length≤sizeLine∧(a == sysModules)=false∧∃ xs:List (List Key × Addr × Value),
     Paired (fun (p:List Key × V) (q:List Key × Addr × Value)=>p.1=q.1∧H q.2.1=some (.tup (p.1.map kV))∧RelV p.2 q.2.2) kvs xs ∧
     ∃ o es ep,h.get? a=some o∧o.ExactDict∧o.data=.dict es ep∧es.toList=xs.map (entryOfKey (tupleKind (cz P w)))∧(xs.map (·.1)).Nodup
 | .set S n=>h.SetOf (intKind P w) a S n
 | .ins C dx fs=>H dx=some (.own a)∧fs.length≤1000∧dx≠a∧h.get? a=some (PySem.W.instObj C dx) ∧
     ∃ mA,h.Ns1 dx mA∧(∀ f,qp (fs.lookup f) (mA f))∧PySem.Within mA (fs.map (·.1))
 | .own _=>∃ o,h.get? a=some o
 | .xd fs=>∃ mA,h.Ns1 a mA∧∀ f,qp (fs.lookup f) (mA f)
 | .rng lo hi=>∃ t u v,h.get? a=some { cls:=.type "range",data:=.fields #[.int lo t,.int hi u,.int 1 v] }
 | .sI o u=>h.get? a=some o∧cD H h a u
 | .mW ps=>∃ ts:Array Value,h.get? a=some { cls:=.none,data:=.fields ts }∧((ts=#[]∧∃ q ln cl,ps=#[.str q 0,ln,cl]) ∨
     ∃ q ln cl c',ts=#[ln,cl,.ref c']∧(ps=#[.str q 0,ln,cl]∨ps=#[.str q 0,ln,cl,.ref c'])∧H c'=some (.own a)∧h.CodeRec (.ref c') q)
 | .met f x=>h.get? a=some (PySem.W.methodObj (.ref f) (.ref x))
 | .ext φ=>φ h∧(∃ o,h.get? a=some o)∧∀ h1 h2:Heap,φ h1→(∀ o,h1.get? a=some o→h2.get? a=some o)→φ h2
def rT (H:Hp) (h:Heap):Prop:=∀ a o,H a=some o→cD P w H h a o
end
section
variable {P:Program}{w:World}{H H':Hp}{h h':Heap}{a:Addr}{o:HO}
theorem cD.lt (x:cD P w H h a o):a<h.objs.size:=by
 cases o with
 | lst xs=>obtain⟨_,_,_,_,e⟩:=x;exact Heap.lt_size e
 | tup xs=>obtain⟨_,_,_,p⟩:=x;exact p.lt
 | dK kvs=>obtain⟨_,_,_,_,o,_,_,e,_⟩:=x;exact Heap.lt_size e
 | dT kvs=>obtain⟨_,_,_,_,o,_,_,e,_⟩:=x;exact Heap.lt_size e
 | set S n=>obtain⟨o,_,_,_,e,_⟩:=x;exact Heap.lt_size e
 | ins C dx fs=>obtain⟨_,_,_,e,_⟩:=x;exact Heap.lt_size e
 | own y=>obtain⟨_,e⟩:=x;exact Heap.lt_size e
 | xd fs=>obtain⟨_,⟨_,_,_,e,_⟩,_⟩:=x;exact Heap.lt_size e
 | rng lo hi=>obtain⟨_,_,_,e⟩:=x;exact Heap.lt_size e
 | sI ob u=>obtain⟨e,_⟩:=x;exact Heap.lt_size e
 | mW ps=>obtain⟨_,e,_⟩:=x;exact Heap.lt_size e
 | met f y=>exact Heap.lt_size (show h.get? a=some _ from x)
 | ext φ=>obtain⟨_,⟨_,e⟩,_⟩:=x;exact Heap.lt_size e
theorem Paired.Wb {α β:Type}{F G:α→β→Prop}:∀ {l₁:List α}{l₂:List β},Paired F l₁ l₂→(∀ a b,F a b→G a b)→Paired G l₁ l₂
 | _,_,.nil,_=>.nil
 | _,_,.cons r t,f=>.cons (f _ _ r) (Paired.Wb t f)
theorem cD.stay (x:cD P w H h a o) (k:∀ b u,(b=a∨H b=some (.own a))→h.get? b=some u→h'.get? b=some u)
   (ho:∀ b,H b=some (.own a)→H' b=some (.own a)) (ht:∀ b xs,H b=some (.tup xs)→H' b=some (.tup xs)):cD P w H' h' a o:=by
 induction o with
 | lst xs=>obtain⟨z,its,n,r,e⟩:=x;exact⟨z,its,n,r,k _ _ (.inl rfl) e⟩
 | tup xs=>obtain⟨z,its,r,ob,e,c⟩:=x;exact⟨z,its,r,ob,k _ _ (.inl rfl) e,c⟩
 | dK kvs=>obtain⟨z,y,vs,r,ob,es,ep,e,c⟩:=x;exact⟨z,y,vs,r,ob,es,ep,k _ _ (.inl rfl) e,c⟩
 | dT kvs =>
   obtain⟨z,y,xs,r,ob,es,ep,e,c⟩:=x
   exact⟨z,y,xs,Paired.Wb r fun p q z=>⟨z.1,ht _ _ z.2.1,z.2.2⟩,ob,es,ep,k _ _ (.inl rfl) e,c⟩
 | set S n=>obtain⟨ob,es,ep,t,e,c⟩:=x;exact⟨ob,es,ep,t,k _ _ (.inl rfl) e,c⟩
 | ins C dx fs =>
   obtain⟨d,z,ne,e,mA,⟨od,es,ep,e2,c⟩,r⟩:=x
   exact⟨ho _ d,z,ne,k _ _ (.inl rfl) e,mA,⟨od,es,ep,k _ _ (.inr d) e2,c⟩,r⟩
 | own y=>obtain⟨ob,e⟩:=x;exact⟨ob,k _ _ (.inl rfl) e⟩
 | xd fs=>obtain⟨mA,⟨od,es,ep,e,c⟩,r⟩:=x;exact⟨mA,⟨od,es,ep,k _ _ (.inl rfl) e,c⟩,r⟩
 | rng lo hi=>obtain⟨t,u,v,e⟩:=x;exact⟨t,u,v,k _ _ (.inl rfl) e⟩
 | sI ob u ih=>obtain⟨e,q⟩:=x;exact⟨k _ _ (.inl rfl) e,ih q⟩
 | mW ps =>
   obtain⟨ts,e,d⟩:=x
   refine⟨ts,k a _ (.inl rfl) e,?_⟩
   rcases d with d | ⟨q,ln,cl,c',e1,e2,e3,c2,o,vs,t,e4,e5,e6⟩
   · exact .inl d
   · cases e4
     exact .inr ⟨q,ln,cl,c',e1,e2,ho _ e3,c',o,vs,t,rfl,k _ _ (.inr e3) e5,e6⟩
 | met f y =>
   have e:h.get? a=some (PySem.W.methodObj (.ref f) (.ref y)):=x
   show h'.get? a=some (PySem.W.methodObj (.ref f) (.ref y))
   exact k a _ (.inl rfl) e
 | ext φ=>obtain⟨p,⟨o,e⟩,st⟩:=x;exact⟨st _ _ p fun o q=>k _ _ (.inl rfl) q,⟨o,k _ _ (.inl rfl) e⟩,st⟩
theorem rT.lt (x:rT P w H h) (e:H a=some o):a<h.objs.size:=(x a o e).lt
theorem rT.fresh (x:rT P w H h) (e:h.objs.size≤a):H a=none:=by
 cases q:H a with
 | none=>rfl
 | some u=>exact absurd (Nat.lt_of_lt_of_le (x.lt q) e) (Nat.lt_irrefl _)
theorem rT.kept (x:rT P w H h) (k:∀ b u,h.get? b=some u→h'.get? b=some u):rT P w H h':=fun a o e =>
 (x a o e).stay (fun b u _ q=>k b u q) (fun _ q=>q) fun _ _ q=>q
theorem rT.laid (x:rT P w H h) (k:∀ b u,h.get? b=some u→h'.get? b=some u) (hp:h.objs.size≤a) (new:cD P w (upd H a o) h' a o):rT P w (upd H a o) h':=fun b u e=>by
 have hn:=x.fresh hp
 by_cases hb:b=a
 · subst hb;rw [zB] at e;cases e;exact new
 · rw [zI hb] at e
   exact (x b u e).stay (fun c v _ q=>k c v q) (fun c q=>by rw [zI (zH q hn)];exact q) fun c xs q=>by rw [zI (zH q hn)];exact q
end
def Rd (H:Hp) (a:Addr) (u:HO):Prop:=H a=some u∨∃ o,H a=some (.sI o u)
theorem Rd.of {H:Hp}{a:Addr}{u:HO} (h:H a=some u):Rd H a u:=.inl h
theorem Rd.ok {P:Program}{w:World}{H:Hp}{h:Heap}{a:Addr}{u:HO} (r:Rd H a u) (x:rT P w H h):cD P w H h a u:=by
 rcases r with r | ⟨o,r⟩
 · exact x a u r
 · obtain⟨_,q⟩:=x a _ r
   exact q
def Mut:Option HO→Prop
 | some (.lst _)=>True
 | some (.dK _)=>True
 | some (.dT _)=>True
 | some (.set _ _)=>True
 | some (.ins _ _ _)=>True
 | some (.ext _)=>True
 | _=>False
section
variable {P:Program}{w:World}{H:Hp}{h h':Heap}{x e:Addr}{o':HO}
theorem rT.write (ok:rT P w H h) (mu:Mut (H x)) (he:e=x∨H e=some (.own x)) (k:∀ b u,b≠e→h.get? b=some u→h'.get? b=some u) (heo:∃ u,h'.get? e=some u)
   (new:cD P w (upd H x o') h' x o'):rT P w (upd H x o') h':=fun b u q=>by
 have ac9:∀ c y,H c=some (.own y)→c≠x:=fun c y r z=>by subst z;rw [r] at mu;exact mu
 have ao5:∀ c xs,H c=some (.tup xs)→c≠x:=fun c xs r z=>by subst z;rw [r] at mu;exact mu
 by_cases hb:b=x
 · subst hb;rw [zB] at q;cases q;exact new
 · rw [zI hb] at q
   by_cases hbe:b=e
   · have q':H b=some (.own x):=by
       rcases he with z | z
       · exact absurd (hbe.trans z) hb
       · rw [hbe];exact z
     rw [q] at q';cases q'
     obtain⟨v,hv⟩:=heo
     exact⟨v,by rw [hbe];exact hv⟩
   · refine (ok b u q).stay (fun c v hc r=>k c v ?_ r) (fun c r=>by rw [zI (ac9 c b r)];exact r) fun c xs r=>by rw [zI (ao5 c xs r)];exact r
     rcases hc with rfl | hc
     · exact hbe
     · rintro rfl
       rcases he with z | z
       · exact ac9 c b hc z
       · rw [hc] at z;cases z;exact hb rfl
end
structure Un (fs ex:List Addr) (H H':Hp) (h h':Heap):Prop where
 keep:∀ b o,h.get? b=some o→H b=none→b∉fs→b∉ex→h'.get? b=some o
 slot:∀ b o,h.get? b=some o→H b=none→b∈fs→b∉ex→∃ sl,h'.get? b=some { o with slots:=sl }
 free:∀ b o,h.get? b=some o→H b=none→b∉ex→H' b=none
 there:∀ b o,h.get? b=some o→b∉ex→∃ o',h'.get? b=some o'
 tups:∀ b xs,H b=some (.tup xs)→H' b=some (.tup xs)
 nR:∀ b o u,H b=some (.sI o u)→H' b=some (.sI o u)
 oJ:∀ b ps,H b=some (.mW ps)→∃ more,H' b=some (.mW (ps++more))
section
variable {fs fs' ex ex':List Addr}{H H1 H2:Hp}{h h1 h2 h':Heap}{a x e:Addr}{o:HO}
theorem Un.any (u:Un fs ex H H1 h h1) {b:Addr}{ob:Obj} (q:h.get? b=some ob) (n:H b=none) (hx:b∉ex):∃ sl,h1.get? b=some { ob with slots:=sl }:=by
 by_cases hb:b∈fs
 · exact u.slot b ob q n hb hx
 · exact⟨ob.slots,u.keep b ob q n hb hx⟩
theorem Un.trans (a:Un fs ex H H1 h h1) (b:Un fs ex H1 H2 h1 h2):Un fs ex H H2 h h2 where
 keep:=fun c ob q n hc hx=>b.keep c ob (a.keep c ob q n hc hx) (a.free c ob q n hx) hc hx
 slot:=fun c ob q n hc hx=>by
   obtain⟨sl,e1⟩:=a.slot c ob q n hc hx
   obtain⟨sl',e2⟩:=b.slot c _ e1 (a.free c ob q n hx) hc hx
   exact⟨sl',e2⟩
 free:=fun c ob q n hx=>by
   obtain⟨o',e1⟩:=a.there c ob q hx
   exact b.free c o' e1 (a.free c ob q n hx) hx
 there:=fun c ob q hx=>by
   obtain⟨o',e1⟩:=a.there c ob q hx
   exact b.there c o' e1 hx
 tups:=fun c xs q=>b.tups c xs (a.tups c xs q)
 nR:=fun c ob xs q=>b.nR c ob xs (a.nR c ob xs q)
 oJ:=fun c ps q=>by
   obtain⟨m1,e1⟩:=a.oJ c ps q
   obtain⟨m2,e2⟩:=b.oJ c _ e1
   exact⟨m1++m2,by rw [e2,Array.append_assoc]⟩
theorem Un.kept (k:∀ b u,h.get? b=some u→h'.get? b=some u):Un fs ex H H h h' :=
 ⟨fun b ob q _ _ _=>k b ob q,fun b ob q _ _ _=>⟨ob.slots,k b ob q⟩,fun _ _ _ n _=>n,fun b ob q _=>⟨ob,k b ob q⟩,fun _ _ q=>q,fun _ _ _ q=>q,fun _ ps q=>⟨#[],by rw [q];simp⟩⟩
theorem Un.refl:Un fs ex H H h h:=Un.kept fun _ _ q=>q
theorem Un.laid (k:∀ b u,h.get? b=some u→h'.get? b=some u) (hp:h.objs.size≤a) (hn:H a=none):Un fs ex H (upd H a o) h h' where
 keep:=fun b u q _ _ _=>k b u q
 slot:=fun b u q _ _ _=>⟨u.slots,k b u q⟩
 free:=fun b u q n _=>by rw [zI (Nat.ne_of_lt (Nat.lt_of_lt_of_le (Heap.lt_size q) hp))];exact n
 there:=fun b u q _=>⟨u,k b u q⟩
 tups:=fun b xs q=>by rw [zI (zH q hn)];exact q
 nR:=fun b u xs q=>by rw [zI (zH q hn)];exact q
 oJ:=fun b ps q=>⟨#[],by rw [zI (zH q hn),q];simp⟩
theorem Un.write (mu:Mut (H x)) (he:e=x∨H e=some (.own x)) (k:∀ b u,b≠e→h.get? b=some u→h'.get? b=some u) (heo:∃ u,h'.get? e=some u):Un fs ex H (upd H x o) h h':=by
 have hx:∀ b,H b=none→b≠x:=fun b n z=>by subst z;rw [n] at mu;exact mu
 have hb:∀ b,H b=none→b≠e:=fun b n z=>by
   subst z
   rcases he with r | r
   · exact hx b n r
   · rw [n] at r;cases r
 have hm:∀ b u,H b=some u→¬ Mut (some u)→b≠x:=fun b u q nm z=>by subst z;rw [q] at mu;exact nm mu
 refine⟨fun b u q n _ _=>k b u (hb b n) q,fun b u q n _ _=>⟨u.slots,k b u (hb b n) q⟩,fun b u q n _=>by rw [zI (hx b n)];exact n,fun b u q _=>?_,
   fun b xs q=>by rw [zI (hm b _ q fun z=>z)];exact q,fun b u xs q=>by rw [zI (hm b _ q fun z=>z)];exact q,fun b ps q=>⟨#[],by rw [zI (hm b _ q fun z=>z),q];simp⟩⟩
 by_cases hbe:b=e
 · subst hbe;exact heo
 · exact⟨u,k b u hbe q⟩
theorem Un.mono (u:Un fs ex H H1 h h1) (hs:∀ b∈fs,b∈fs') (hx:∀ b∈ex,b∈ex'):Un fs' ex' H H1 h h1 :=
 ⟨fun b ob q n hb he=>u.keep b ob q n (fun z=>hb (hs b z)) fun z=>he (hx b z),fun _ _ q n _ he=>u.any q n fun z=>he (hx _ z),fun b ob q n he=>u.free b ob q n fun z=>he (hx b z),fun b ob q he=>u.there b ob q fun z=>he (hx b z),u.tups,u.nR,u.oJ⟩
end
def trk (h:Heap) (H:Hp):List Addr:=(List.range h.objs.size).filter fun a=>(H a).isSome
def Fj (h:Heap) (H:Hp):Heap:=PySem.W.hideAll h (trk h H)
theorem Qk (h:Heap) (H:Hp):(Fj h H).objs.size=h.objs.size:=PySem.W.hideAll_size _ _
theorem Rj {h:Heap}{H:Hp}{b:Addr}{o:Obj} (e:h.get? b=some o) (n:H b=none):(Fj h H).get? b=some o :=
 PySem.W.hideAll_get _ e fun hm=>by
   have q:(H b).isSome=true:=(List.mem_filter.mp hm).2
   rw [n] at q;simp at q
theorem Wc {h:Heap}{H:Hp}{b:Addr}{o:Obj} (e:(Fj h H).get? b=some o):h.get? b=some o∧H b=none:=by
 have e':h.get? b=some o:=PySem.W.of_hideAll (trk h H) e
 refine⟨e',?_⟩
 cases q:H b with
 | none=>rfl
 | some x =>
   have hm:b∈trk h H:=List.mem_filter.mpr ⟨List.mem_range.mpr (Heap.lt_size e'),by simp [q]⟩
   have z:(Fj h H).get? b=none:=PySem.W.hideAll_none (trk h H) hm
   rw [z] at e;cases e
def Wd (g h:Heap) (L:Addr):List (Addr × Obj):=(List.range h.objs.size).filterMap fun a=>if a=L∨(g.get? a).isSome=true then none else (h.get? a).map fun o=>(a,o)
def rest (g h:Heap) (L d:Addr):List (Addr × Obj):=(Wd g h L).filter fun p=>decide (p.1≠d)
end L2
namespace L2
open PySem PySem.Spec PyProof.Rows
structure Mod (K:PySem.W.Frag) (mg:Str→Option Value) (base:Heap):Prop where
 Yp:K.In base
 glob:base.Ns mainGlobals mg
 blt:∃ mb,base.Ns builtinsNs mb∧∀ x:Str,x≠"__name__"→mb x=bootBuiltins x
 nolimit:base.NoLimit
structure Cx where
 prog:Program
 w:World
 K:PySem.W.Frag
 mg:Str→Option Value
 base:Heap
 A:Around
 N:List Str
 s₀:Shared
 H₀:Hp
 env:Env
 outer:List Env
 stack:List Env
 ex:List Addr
 fn:Str→Bool
 calm:Bool
 pn:List (Addr × Obj)
 xe:Value→Shared→Prop
def frs (l:List Env):List Addr:=l.filterMap (·.frame)
abbrev Cx.fs (X:Cx):List Addr:=frs X.outer
def Vis (sc:Scope) (x:Str):Prop:=sc.names.lookup x=some .local∨sc.names.lookup x=some .cell∨sc.names.lookup x=some .free
def Loc (sc:Scope) (x:Str):Prop:=sc.names.lookup x=some .local∨sc.names.lookup x=some .cell
def Look (env:Env) (h:Heap) (m:Str→Option Value) (x:Str) (u:Value):Prop :=
 (env.kindOf x=some .local∧m x=some u)∨((env.kindOf x=some .cell∨env.kindOf x=some .free)∧∃ c,env.cells.lookup x=some c∧h.IsCell c (some u))
structure Cx.Ok (X:Cx):Prop where
 mod:Mod X.K X.mg X.base
 kind:X.env.scope.kind=.function
 glob:X.env.globals=mainGlobals
 blt:X.env.builtins=builtinsNs
 above:X.s₀.heap.objs.size≤X.env.locals
 inj:∀ x y c,X.env.cells.lookup x=some c→X.env.cells.lookup y=some c→x=y
 has:∀ x,(X.env.kindOf x=some .cell∨X.env.kindOf x=some .free)→∃ c,X.env.cells.lookup x=some c
 cab:∀ x c,X.fn x=true→X.env.cells.lookup x=some c→X.s₀.heap.objs.size≤c
 hd:X.calm=true→X.A.handled=none
 frames:X.A.frames=some X.stack
 stk:X.stack=X.outer∨(X.stack=X.env::X.outer∧X.env.frame=some X.env.locals)
 exf:∀ b∈X.ex,b≠X.env.locals∧∀ x c,X.env.cells.lookup x=some c→c≠b
 bs:∀ b o,X.base.get? b=some o→X.s₀.heap.get? b=some o∧X.H₀ b=none
 Ql:X.base.objs.size≤X.s₀.heap.objs.size
 Rk:∀ b o,X.base.get? b=some o→b∉X.ex
 We:∀ b∈X.ex,b∉X.fs
 qz:X.s₀.heap.FunFrames X.base X.outer
 Rm:∀ b∈X.fs,X.H₀ b=none
structure Inv (X:Cx) (pins:List (Addr × Obj)) (σ:List (Option V)) (H:Hp) (s:Shared):Prop where
 ok:X.Ok
 os:s.os=X.s₀.os
 bare:AllBare s.gens
 base:Un X.fs X.ex X.H₀ H X.s₀.heap s.heap
 loc:∃ m,s.heap.Ns X.env.locals m∧∀ (i:Nat) (x:Str) (v:V),X.N[i]? = some x→σ[i]? = some (some v)→Vis X.env.scope x→∃ u,RelV v u∧Look X.env s.heap m x u
 cell:∀ x c,X.env.cells.lookup x=some c→∃ v,s.heap.IsCell c v
 free:H X.env.locals=none
 jM:∀ x c,X.env.cells.lookup x=some c→H c=none
 pin:∀ p∈X.pn++pins,s.heap.get? p.1=some p.2∧H p.1=none∧p.1≠X.env.locals∧p.1∉X.fs∧∀ v,p.2.data≠.cell v
 hok:rT X.prog X.w H s.heap
 len:σ.length=X.N.length
section
variable {X:Cx}{pins:List (Addr × Obj)}{σ:List (Option V)}{H H':Hp}{s:Shared}{h':Heap}
theorem Cx.Ok.ao6 (ok:X.Ok) {b:Addr}{o:Obj} (e:X.base.get? b=some o):b∉X.fs:=fun hb=>by
 have:=(ok.qz.mem hb).1
 rw [e] at this;cases this
theorem Inv.bs (I:Inv X pins σ H s):∀ b o,X.base.get? b=some o→s.heap.get? b=some o∧H b=none:=fun b o e =>
 ⟨I.base.keep b o (I.ok.bs b o e).1 (I.ok.bs b o e).2 (I.ok.ao6 e) (I.ok.Rk b o e),I.base.free b o (I.ok.bs b o e).1 (I.ok.bs b o e).2 (I.ok.Rk b o e)⟩
theorem Inv.bk (I:Inv X pins σ H s):∀ b o,X.base.get? b=some o→s.heap.get? b=some o:=fun b o e=>(I.bs b o e).1
theorem Inv.mod (I:Inv X pins σ H s):Mod X.K X.mg X.base:=I.ok.mod
theorem Inv.By (I:Inv X pins σ H s):X.K.In s.heap:=I.ok.mod.Yp.keeps I.bk
theorem Inv.nolimit (I:Inv X pins σ H s):s.heap.NoLimit:=I.ok.mod.nolimit.keeps I.bk
theorem Inv.fr (I:Inv X pins σ H s):∃ m,Fr X.base X.env.locals s.heap m :=
 let ⟨m,hn,_⟩:=I.loc
 ⟨m,hn,I.bk,Nat.le_trans I.ok.Ql I.ok.above⟩
theorem Inv.lt (I:Inv X pins σ H s):X.env.locals<s.heap.objs.size:=let ⟨_,hn,_⟩:=I.loc;hn.lt
theorem Inv.sz (I:Inv X pins σ H s):X.s₀.heap.objs.size≤s.heap.objs.size:=Nat.le_trans I.ok.above (Nat.le_of_lt I.lt)
theorem Inv.Wf (I:Inv X pins σ H s) {a:Addr} (h:s.heap.objs.size≤a):a∉X.fs:=fun hb=>by
 obtain⟨_,o,ho,_⟩:=I.ok.qz.mem hb
 exact absurd (Nat.lt_of_lt_of_le (Heap.lt_size ho) (Nat.le_trans I.sz h)) (Nat.lt_irrefl _)
theorem Inv.Zy (I:Inv X pins σ H s):∀ x c,X.env.cells.lookup x=some c→c≠X.env.locals:=fun x c e z=>by
 obtain⟨v,o,ho,hd⟩:=I.cell x c e
 obtain⟨m,⟨o',es,ep,ho',hd',_⟩,_⟩:=I.loc
 rw [z,ho'] at ho;cases ho;rw [hd'] at hd;cases hd
theorem Inv.qz (I:Inv X pins σ H s):s.heap.FunFrames X.base X.outer:=by
 have all:∀ (l:List Env),(∀ b∈frs l,b∈X.fs)→X.s₀.heap.FunFrames X.base l→s.heap.FunFrames X.base l:=by
   intro l
   induction l with
   | nil=>intro _ _;trivial
   | cons env r ih =>
     intro hs hl
     obtain⟨hk,⟨L,o,hf,hn,ho,hd⟩,hr⟩:=hl
     have hL:L∈X.fs:=hs L (by unfold frs;rw [List.filterMap_cons,hf];exact List.mem_cons_self)
     obtain⟨sl,e⟩:=I.base.slot L o ho (I.ok.Rm L hL) hL fun z=>I.ok.We L z hL
     exact⟨hk,⟨L,_,hf,hn,e,hd⟩,ih (fun b hb=>hs b (by unfold frs;rw [List.filterMap_cons,hf];exact List.mem_cons_of_mem _ hb)) hr⟩
 exact all X.outer (fun _ hb=>hb) I.ok.qz
theorem Inv.stack (I:Inv X pins σ H s):s.heap.FunFrames X.base X.stack:=by
 rcases I.ok.stk with e | ⟨e,hf⟩
 · rw [e];exact I.qz
 · rw [e]
   obtain⟨m,hn,_⟩:=I.loc
   refine .cons (by rw [I.ok.kind];decide) hf hn ?_ I.qz
   exact Heap.get?_none_of_le (Nat.le_trans I.ok.Ql I.ok.above)
theorem Inv.wQ (I:Inv X pins σ H s):∀ b∈frs X.stack,b∈X.env.locals::X.fs:=fun b hb=>by
 rcases I.ok.stk with e | ⟨e,hf⟩
 · rw [e] at hb;exact List.mem_cons_of_mem _ hb
 · rw [e] at hb
   unfold frs at hb
   rw [List.filterMap_cons,hf] at hb
   exact hb
theorem Inv.Hr (I:Inv X pins σ H s):∀ b∈frs X.stack,H b=none:=fun b hb=>by
 rcases List.mem_cons.mp (I.wQ b hb) with e | hb
 · rw [e];exact I.free
 · obtain⟨_,o,ho,_⟩:=I.ok.qz.mem hb
   exact I.base.free b o ho (I.ok.Rm b hb) fun z=>I.ok.We b z hb
theorem Inv.step {g':Array GenState}{t':Nat}{d':Drawn}{ch:List Addr} (I:Inv X pins σ H s)
   (hch:∀ b∈ch,(b∈X.ex∨X.s₀.heap.objs.size≤b)∧b≠X.env.locals∧(∀ x c,X.env.cells.lookup x=some c→c≠b)∧∀ p∈X.pn++pins,p.1≠b)
   (keep:∀ b o,b≠X.env.locals→b∉X.fs→b∉ch→s.heap.get? b=some o→H b=none→h'.get? b=some o)
   (slot:∀ b o,b≠X.env.locals→b∈X.fs→b∉ch→s.heap.get? b=some o→H b=none→∃ sl,h'.get? b=some { o with slots:=sl }) (free:∀ b o,b∉ch→s.heap.get? b=some o→H b=none→H' b=none)
   (there:∀ b o,b∉ch→s.heap.get? b=some o→∃ o',h'.get? b=some o')
   (tups:∀ b xs,H b=some (.tup xs)→H' b=some (.tup xs)) (nR:∀ b o u,H b=some (.sI o u)→H' b=some (.sI o u)) (oJ:∀ b ps,H b=some (.mW ps)→∃ more,H' b=some (.mW (ps++more)))
   (ns:∀ m,s.heap.Ns X.env.locals m→h'.Ns X.env.locals m) (hok:rT X.prog X.w H' h') (hg:AllBare g') :
   Inv X pins σ H' { s with heap:=h',gens:=g',drawn:=d',toks:=t' }:=by
 have neL:∀ b o,X.s₀.heap.get? b=some o→b≠X.env.locals:=fun b o e=>Nat.ne_of_lt (Nat.lt_of_lt_of_le (Heap.lt_size e) I.ok.above)
 have neC:∀ b o,X.s₀.heap.get? b=some o→b∉X.ex→b∉ch:=fun b o e hx hb=>by
   rcases (hch b hb).1 with z | z
   · exact hx z
   · exact absurd (Nat.lt_of_lt_of_le (Heap.lt_size e) z) (Nat.lt_irrefl _)
 have cellK:∀ x c,X.env.cells.lookup x=some c→∀ v,s.heap.IsCell c v→h'.IsCell c v:=fun x c e v ⟨o,ho,hd⟩=>by
   have nch:c∉ch:=fun z=>(hch c z).2.2.1 x c e rfl
   by_cases hc:c∈X.fs
   · obtain⟨sl,q⟩:=slot c o (I.Zy x c e) hc nch ho (I.jM x c e)
     exact⟨_,q,hd⟩
   · exact⟨o,keep c o (I.Zy x c e) hc nch ho (I.jM x c e),hd⟩
 refine⟨I.ok,I.os,hg,⟨fun b o e n hb hx=>?_,fun b o e n hb hx=>?_,fun b o e n hx=>?_,fun b o e hx=>?_,fun b xs e=>tups b xs (I.base.tups b xs e),fun b o xs e=>nR b o xs (I.base.nR b o xs e),fun b ps e=>?_⟩,?_,fun x c e=>?_,?_,fun x c e=>?_,fun p hp=>?_,hok,I.len⟩
 · exact keep b o (neL b o e) hb (neC b o e hx) (I.base.keep b o e n hb hx) (I.base.free b o e n hx)
 · obtain⟨sl,e1⟩:=I.base.slot b o e n hb hx
   obtain⟨sl',e2⟩:=slot b _ (neL b o e) hb (neC b o e hx) e1 (I.base.free b o e n hx)
   exact⟨sl',e2⟩
 · obtain⟨o',e1⟩:=I.base.there b o e hx
   exact free b o' (neC b o e hx) e1 (I.base.free b o e n hx)
 · obtain⟨o',e1⟩:=I.base.there b o e hx
   exact there b o' (neC b o e hx) e1
 · obtain⟨m1,e1⟩:=I.base.oJ b ps e
   obtain⟨m2,e2⟩:=oJ b _ e1
   exact⟨m1++m2,by rw [e2,Array.append_assoc]⟩
 · obtain⟨m,hn,hl⟩:=I.loc
   refine⟨m,ns m hn,fun i x v e1 e2 e3=>?_⟩
   obtain⟨u,r,l⟩:=hl i x v e1 e2 e3
   refine⟨u,r,?_⟩
   rcases l with l | ⟨k,c,e,z⟩
   · exact .inl l
   · exact .inr ⟨k,c,e,cellK x c e _ z⟩
 · obtain⟨v,z⟩:=I.cell x c e
   exact⟨v,cellK x c e v z⟩
 · obtain⟨m,⟨o,_,_,ho,_⟩,_⟩:=I.loc
   exact free _ o (fun z=>(hch _ z).2.1 rfl) ho I.free
 · obtain⟨v,o,ho,hd⟩:=I.cell x c e
   exact free c o (fun z=>(hch c z).2.2.1 x c e rfl) ho (I.jM x c e)
 · obtain⟨e,n,ne,nf,d⟩:=I.pin p hp
   have nch:p.1∉ch:=fun z=>(hch p.1 z).2.2.2 p hp rfl
   exact⟨keep p.1 p.2 ne nf nch e n,free p.1 p.2 nch e n,ne,nf,d⟩
theorem Inv.un {t':Nat} (I:Inv X pins σ H s) (u:Un X.fs [] H H' s.heap h') (hok:rT X.prog X.w H' h'):Inv X pins σ H' { s with heap:=h',toks:=t' }:=by
 obtain⟨m,⟨o,es,ep,ho,r⟩,_⟩:=id I.loc
 obtain⟨sl,hL⟩:=u.any ho I.free (by simp)
 exact I.step (g':=s.gens) (d':=s.drawn) (ch:=[]) (fun _ z=>nomatch z) (fun b o _ hb _ e n=>u.keep b o e n hb (by simp)) (fun b o _ hb _ e n=>u.slot b o e n hb (by simp)) (fun b o _ e n=>u.free b o e n (by simp)) (fun b o _ e=>u.there b o e (by simp)) u.tups u.nR u.oJ (fun m' hm=>by
   obtain⟨o',es',ep',ho',r'⟩:=hm
   rw [ho] at ho';cases ho'
   exact⟨_,es',ep',hL,r'⟩) hok I.bare
theorem Inv.call {g':Array GenState}{t':Nat}{d':Drawn}{ch:List Addr} (I:Inv X pins σ H s) (u:Un (frs X.stack) ch H H' s.heap h') (hok:rT X.prog X.w H' h') (hg:AllBare g')
   (hch:∀ b∈ch,(b∈X.ex∨X.s₀.heap.objs.size≤b)∧b≠X.env.locals∧(∀ x c,X.env.cells.lookup x=some c→c≠b)∧∀ p∈X.pn++pins,p.1≠b) :
   Inv X pins σ H' { s with heap:=h',gens:=g',drawn:=d',toks:=t' }:=by
 obtain⟨m,⟨o,es,ep,ho,r⟩,_⟩:=id I.loc
 obtain⟨sl,hL⟩:=u.any ho I.free fun z=>(hch _ z).2.1 rfl
 exact I.step (ch:=ch) hch (fun b o hL hb hc e n=>u.keep b o e n (fun z=>(List.mem_cons.mp (I.wQ b z)).elim hL hb) hc) (fun b o _ _ hc e n=>u.any e n hc) (fun b o hc e n=>u.free b o e n hc) (fun b o hc e=>u.there b o e hc) u.tups u.nR u.oJ (fun m' hm=>by
   obtain⟨o',es',ep',ho',r'⟩:=hm
   rw [ho] at ho';cases ho'
   exact⟨_,es',ep',hL,r'⟩) hok hg
theorem Inv.turned {t':Nat}{it:Addr} (I:Inv X pins σ H s) (k:∀ b o,b≠it→s.heap.get? b=some o→h'.get? b=some o) (hn:H it=none) (hL:it≠X.env.locals)
   (h1:it∈X.ex∨X.s₀.heap.objs.size≤it) (h2:∀ x c,X.env.cells.lookup x=some c→c≠it) (h3:∀ p∈X.pn++pins,p.1≠it):Inv X pins σ H { s with heap:=h',toks:=t' }:=by
 have nit:∀ b u,H b=some u→b≠it:=fun b u e z=>by rw [z,hn] at e;cases e
 refine I.step (g':=s.gens) (d':=s.drawn) (ch:=[it]) (fun b hb=>?_) (fun b o _ _ hc e _=>k b o (fun z=>hc (by simp [z])) e) (fun b o _ _ hc e _=>⟨o.slots,k b o (fun z=>hc (by simp [z])) e⟩) (fun _ _ _ _ n=>n)
   (fun b o hc e=>⟨o,k b o (fun z=>hc (by simp [z])) e⟩) (fun _ _ e=>e) (fun _ _ _ e=>e) (fun b ps e=>⟨#[],by rw [e];simp⟩) (fun m hm=>?_) (fun b u e=>?_) I.bare
 · have e:b=it:=by simpa using hb
   subst e
   exact⟨h1,hL,h2,h3⟩
 · obtain⟨o,es,ep,ho,r⟩:=hm
   exact⟨o,es,ep,k _ o (Ne.symm hL) ho,r⟩
 · refine (I.hok b u e).stay (fun c v hc q=>k c v ?_ q) (fun _ q=>q) fun _ _ q=>q
   rcases hc with z | z
   · rw [z];exact nit b u e
   · exact nit c _ z
theorem Inv.tok (I:Inv X pins σ H s) (t:Nat):Inv X pins σ H { s with toks:=t }:=I.un (h':=s.heap) (t':=t) Un.refl I.hok
theorem Inv.kept {t':Nat} (I:Inv X pins σ H s) (k:∀ b u,s.heap.get? b=some u→h'.get? b=some u):Inv X pins σ H { s with heap:=h',toks:=t' }:=I.un (Un.kept k) (I.hok.kept k)
theorem Inv.laid {a:Addr}{o:HO}{t':Nat} (I:Inv X pins σ H s) (k:∀ b u,s.heap.get? b=some u→h'.get? b=some u) (hp:s.heap.objs.size≤a) (new:cD X.prog X.w (upd H a o) h' a o) :
   Inv X pins σ (upd H a o) { s with heap:=h',toks:=t' }:=I.un (Un.laid k hp (I.hok.fresh hp)) (I.hok.laid k hp new)
theorem Inv.write {x e:Addr}{o:HO}{t':Nat} (I:Inv X pins σ H s) (mu:Mut (H x)) (he:e=x∨H e=some (.own x)) (k:∀ b u,b≠e→s.heap.get? b=some u→h'.get? b=some u) (heo:∃ u,h'.get? e=some u)
   (new:cD X.prog X.w (upd H x o) h' x o):Inv X pins σ (upd H x o) { s with heap:=h',toks:=t' }:=I.un (Un.write mu he k heo) (I.hok.write mu he k heo new)
theorem Inv.weak {σ':List (Option V)} (I:Inv X pins σ H s) (hl:σ'.length=σ.length) (w:∀ (i:Nat) v,σ'[i]? = some (some v)→σ[i]? = some (some v)):Inv X pins σ' H s :=
 ⟨I.ok,I.os,I.bare,I.base,let ⟨m,hn,hl'⟩:=I.loc; ⟨m,hn,fun i x v e1 e2 e3=>hl' i x v e1 (w i v e2) e3⟩,I.cell,I.free,I.jM,I.pin,I.hok,hl.trans I.len⟩
theorem Inv.gm {BJ:List (Addr × Obj)} (I:Inv X pins σ H s) (h:∀ p∈BJ,s.heap.get? p.1=some p.2∧H p.1=none∧p.1≠X.env.locals∧p.1∉X.fs∧∀ v,p.2.data≠.cell v):Inv X BJ σ H s :=
 ⟨I.ok,I.os,I.bare,I.base,I.loc,I.cell,I.free,I.jM,fun p hp=>(List.mem_append.mp hp).elim (fun z=>I.pin p (List.mem_append_left _ z)) (h p),I.hok,I.len⟩
theorem JB {N:List Str} (hN:N.Nodup) {i j:Nat}{x:Str} (a:N[i]? = some x) (b:N[j]? = some x):i=j:=by
 obtain⟨h1,e1⟩:=List.getElem?_eq_some_iff.mp a
 obtain⟨h2,e2⟩:=List.getElem?_eq_some_iff.mp b
 exact (List.getElem_inj hN).mp (e1.trans e2.symm)
theorem wR {M:Model}{A:Around}{E:Value→Shared→Prop}{i:Nat}{x:Str}{v:V}{u:Value}{Q:Unit→Shared→Prop} (I:Inv X pins σ H s) (hN:X.N.Nodup) (hi:X.N[i]? = some x) (hx:Loc X.env.scope x) (r:RelV v u)
   (h:∀ s',Inv X pins (σ.set i (some v)) H s'→(∃ a,Heap.SameBut a s.heap s'.heap∧(a=X.env.locals∨X.env.cells.lookup x=some a))→Q () s') (hf:X.fn x=true∨X.env.scope.names.lookup x=some .local:=by first | exact .inl rfl | exact .inr rfl | assumption):wpAny M A (storeName X.env x u) Q E s:=by
 obtain⟨m,hn,hl⟩:=id I.loc
 have hcls:(X.env.scope.kind == .class || (X.env.scope.kind == .module && X.env.locals != X.env.globals))=false:=by rw [I.ok.kind];rfl
 have adf:i<σ.length:=by rw [I.len];exact (List.getElem?_eq_some_iff.mp hi).1
 have Zy:=I.Zy
 have tracked:∀ {a:Addr}{h':Heap},(∃ o,s.heap.get? a=some o∧H a=none)→Heap.SameBut a s.heap h'→rT X.prog X.w H h':=fun {a h'} ha hs b ob e=>by
   obtain⟨_,_,hfree⟩:=ha
   refine (I.hok b ob e).stay (fun c w' hc q=>(hs.2 c ?_).trans q) (fun _ q=>q) fun _ _ q=>q
   rintro rfl
   rcases hc with rfl | hc
   · rw [hfree] at e;cases e
   · rw [hfree] at hc;cases hc
 rcases hx with hk | hk
 · refine wpAny_storeName_local hk hn (fun h' hn' hs=>?_) hcls
   obtain⟨oL,_,_,hoL,_⟩:=id hn
   refine h _ ⟨I.ok,I.os,I.bare,⟨fun b o e n hb hx=>?_,fun b o e n hb hx=>?_,I.base.free,fun b o e hx=>?_,I.base.tups,I.base.nR,I.base.oJ⟩,⟨_,hn',fun j y v' e1 e2 e3=>?_⟩,fun y c e=>?_,I.free,I.jM,fun p hp=>?_,tracked ⟨oL,hoL,I.free⟩ hs,by simpa using I.len⟩ ⟨_,hs,.inl rfl⟩
   · exact (hs.2 b (Nat.ne_of_lt (Nat.lt_of_lt_of_le (Heap.lt_size e) I.ok.above))).trans (I.base.keep b o e n hb hx)
   · obtain⟨sl,e1⟩:=I.base.slot b o e n hb hx
     exact⟨sl,(hs.2 b (Nat.ne_of_lt (Nat.lt_of_lt_of_le (Heap.lt_size e) I.ok.above))).trans e1⟩
   · obtain⟨o',e1⟩:=I.base.there b o e hx
     exact⟨o',(hs.2 b (Nat.ne_of_lt (Nat.lt_of_lt_of_le (Heap.lt_size e) I.ok.above))).trans e1⟩
   · by_cases hj:j=i
     · subst hj
       rw [hi] at e1;cases e1
       rw [List.getElem?_set_self adf] at e2
       cases e2
       exact⟨u,r,.inl ⟨hk,by simp⟩⟩
     · rw [List.getElem?_set_ne (Ne.symm hj)] at e2
       obtain⟨u',r',q⟩:=hl j y v' e1 e2 e3
       refine⟨u',r',?_⟩
       rcases q with ⟨k,e⟩ | ⟨k,c,e,z⟩
       · refine .inl ⟨k,?_⟩
         have:y≠x:=fun e=>hj (JB hN e1 (e ▸ hi))
         simp [this,e]
       · exact .inr ⟨k,c,e,z.sameBut hs (Zy y c e)⟩
   · obtain⟨w',z⟩:=I.cell y c e
     exact⟨w',z.sameBut hs (Zy y c e)⟩
   · obtain⟨e,n,ne,nf,d⟩:=I.pin p hp
     exact⟨(hs.2 p.1 ne).trans e,n,ne,nf,d⟩
 · have hfn:X.fn x=true:=by
     rcases hf with z | z
     · exact z
     · rw [z] at hk;cases hk
   obtain⟨c,hc⟩:=I.ok.has x (.inl hk)
   obtain⟨w',z⟩:=I.cell x c hc
   refine wpAny_storeName_cell I.ok.kind hk hc z (fun h' hc' hs=>?_)
   obtain⟨oc,hoc,ao7⟩:=id z
   refine h { s with heap:=h' } ⟨I.ok,I.os,I.bare,⟨fun b o e n hb hx=>?_,fun b o e n hb hx=>?_,I.base.free,fun b o e hx=>?_,I.base.tups,I.base.nR,I.base.oJ⟩,⟨m,hn.sameBut hs (Ne.symm (Zy x c hc)),fun j y v' e1 e2 e3=>?_⟩,fun y c' e=>?_,I.free,I.jM,fun p hp=>?_,tracked ⟨oc,hoc,I.jM x c hc⟩ hs,by simpa using I.len⟩ ⟨c,hs,.inr hc⟩
   · exact (hs.2 b (Nat.ne_of_lt (Nat.lt_of_lt_of_le (Heap.lt_size e) (I.ok.cab x c hfn hc)))).trans (I.base.keep b o e n hb hx)
   · obtain⟨sl,e1⟩:=I.base.slot b o e n hb hx
     exact⟨sl,(hs.2 b (Nat.ne_of_lt (Nat.lt_of_lt_of_le (Heap.lt_size e) (I.ok.cab x c hfn hc)))).trans e1⟩
   · obtain⟨o',e1⟩:=I.base.there b o e hx
     exact⟨o',(hs.2 b (Nat.ne_of_lt (Nat.lt_of_lt_of_le (Heap.lt_size e) (I.ok.cab x c hfn hc)))).trans e1⟩
   · by_cases hj:j=i
     · subst hj
       rw [hi] at e1;cases e1
       rw [List.getElem?_set_self adf] at e2
       cases e2
       exact⟨u,r,.inr ⟨.inl hk,c,hc,hc'⟩⟩
     · rw [List.getElem?_set_ne (Ne.symm hj)] at e2
       obtain⟨u',r',q⟩:=hl j y v' e1 e2 e3
       refine⟨u',r',?_⟩
       rcases q with q | ⟨k,c',e,z'⟩
       · exact .inl q
       · refine .inr ⟨k,c',e,z'.sameBut hs ?_⟩
         rintro rfl
         exact hj (JB hN e1 (I.ok.inj _ _ _ e hc ▸ hi))
   · by_cases hcc:c'=c
     · subst hcc;exact⟨_,hc'⟩
     · obtain⟨w2,z2⟩:=I.cell y c' e
       exact⟨w2,z2.sameBut hs hcc⟩
   · obtain⟨e,n,ne,nf,d⟩:=I.pin p hp
     refine⟨(hs.2 p.1 ?_).trans e,n,ne,nf,d⟩
     intro q
     rw [q,hoc] at e
     have q':oc=p.2:=Option.some.inj e
     exact d w' (by rw [← q'];exact ao7)
theorem vg {M:Model}{A:Around}{E:Value→Shared→Prop}{i:Nat}{x:Str}{v:V}{u:Value}{Q:Unit→Shared→Prop} (I:Inv X pins σ H s) (hN:X.N.Nodup) (hi:X.N[i]? = some x) (hx:Loc X.env.scope x) (r:RelV v u)
   (h:∀ s',Inv X pins (σ.set i (some v)) H s'→Q () s') (hf:X.fn x=true∨X.env.scope.names.lookup x=some .local:=by first | exact .inl rfl | exact .inr rfl | assumption):wpAny M A (storeName X.env x u) Q E s :=
 wR I hN hi hx r (fun s' I' _=>h s' I') hf
theorem Inv.call' {s':Shared}{ch:List Addr} (I:Inv X pins σ H s) (ho:s'.os=s.os) (u:Un (frs X.stack) ch H H' s.heap s'.heap) (hok:rT X.prog X.w H' s'.heap) (hg:AllBare s'.gens)
   (hch:∀ b∈ch,(b∈X.ex∨X.s₀.heap.objs.size≤b)∧b≠X.env.locals∧(∀ x c,X.env.cells.lookup x=some c→c≠b)∧∀ p∈X.pn++pins,p.1≠b):Inv X pins σ H' s':=by
 obtain⟨h',g',d',t',o'⟩:=s'
 have e:o'=s.os:=ho
 subst e
 exact I.call (g':=g') (t':=t') (d':=d') u hok hg hch
end
abbrev XK:=Value→Option Addr→Hp→Prop
abbrev St:=List (Option V)
abbrev VK:=V→Hp→Prop
abbrev TE:=St→Hp→VK→Prop
abbrev TT:=St→Hp→(Bool→Hp→Prop)→Prop
abbrev TA:=St→Hp→(List V→Hp→Prop)→Prop
structure Ends where
 nx:St→Hp→Prop
 rt:VK
 bk:St→Hp→Prop:=fun _ _=>False
 ct:St→Hp→Prop:=fun _ _=>False
abbrev TS:=Ends→St→Hp→Prop
def EP (X:Cx) (pins:List (Addr × Obj)) (σ:St) (Q:VK) (u:Value) (s':Shared):Prop:=∃ v H',Inv X pins σ H' s'∧RelV v u∧Q v H'
def TP (X:Cx) (pins:List (Addr × Obj)) (σ:St) (Q:Bool→Hp→Prop) (b:Bool) (s':Shared):Prop:=∃ H',Inv X pins σ H' s'∧Q b H'
def AP (X:Cx) (pins:List (Addr × Obj)) (σ:St) (Q:List V→Hp→Prop) (us:List Value) (s':Shared):Prop:=∃ vs H',Inv X pins σ H' s'∧Vals vs us∧Q vs H'
def SP (X:Cx) (pins:List (Addr × Obj)) (D:Ends) (f:Flow) (s':Shared):Prop :=
 match f with
 | .next=>∃ σ' H',Inv X pins σ' H' s'∧D.nx σ' H'
 | .brk=>∃ σ' H',Inv X pins σ' H' s'∧D.bk σ' H'
 | .cont=>∃ σ' H',Inv X pins σ' H' s'∧D.ct σ' H'
 | .ret u=>∃ v σ' H',Inv X pins σ' H' s'∧RelV v u∧D.rt v H'
def PE (X:Cx) (e:Expr) (t:TE):Prop :=
 ∀ (pins:List (Addr × Obj)) (s:Shared) (σ:St) (H:Hp) (Q:VK),Inv X pins σ H s→t σ H Q→wpAny (model X.prog X.w) X.A (eval e X.env) (EP X pins σ Q) X.xe s
def PT (X:Cx) (e:Expr) (t:TT):Prop :=
 ∀ (pins:List (Addr × Obj)) (s:Shared) (σ:St) (H:Hp) (Q:Bool→Hp→Prop),Inv X pins σ H s→t σ H Q→wpAny (model X.prog X.w) X.A (isTrue e X.env (eval e X.env)) (TP X pins σ Q) X.xe s
def PW (X:Cx) (e:Expr) (t:TT):Prop :=
 ∀ (whole:Sem Value) (pins:List (Addr × Obj)) (s:Shared) (σ:St) (H:Hp) (Q:Bool→Hp→Prop),Inv X pins σ H s→t σ H Q→wpAny (model X.prog X.w) X.A (isTrue e X.env whole) (TP X pins σ Q) X.xe s
theorem PW.pt {X:Cx}{e:Expr}{t:TT} (h:PW X e t):PT X e t:=h _
def PA (X:Cx) (es:List Expr) (t:TA):Prop :=
 ∀ (pos:Pos) (pins:List (Addr × Obj)) (s:Shared) (σ:St) (H:Hp) (Q:List V→Hp→Prop),Inv X pins σ H s→t σ H Q→wpAny (model X.prog X.w) X.A (spliced (backTo pos (starEach es X.env))) (AP X pins σ Q) X.xe s
def PS (X:Cx) (st:Stmt) (t:TS):Prop :=
 ∀ (pins:List (Addr × Obj)) (s:Shared) (σ:St) (H:Hp) (D:Ends),Inv X pins σ H s→t D σ H→wpAny (model X.prog X.w) X.A (exec st X.env) (SP X pins D) X.xe s
def o6 (X:Cx) (st:List Stmt) (t:TS):Prop :=
 ∀ (pins:List (Addr × Obj)) (s:Shared) (σ:St) (H:Hp) (D:Ends),Inv X pins σ H s→t D σ H→wpAny (model X.prog X.w) X.A (execs st X.env) (SP X pins D) X.xe s
theorem dO {α:Type}{t:Sem α}{Q Q':α→Shared→Prop}{M:Model}{A:Around}{E:Value→Shared→Prop}{s:Shared} (h:wpAny M A t Q E s) (hQ:∀ a s,Q a s→Q' a s):wpAny M A t Q' E s:=wpAny_mono h hQ fun _ _ x=>x
end L2
namespace L2
open PySem PySem.Spec PyProof.Rows
section
variable {X:Cx}
def mX (i:Nat):TE:=fun σ H Q=>∃ v,σ[i]? = some (some v)∧Q v H
def tC (v:V):TE:=fun _ H Q=>Q v H
theorem Zz {i:Nat}{x:Str}{pos:Pos} (hN:X.N[i]? = some x) (hv:Vis X.env.scope x) (hd:(x == ("__debug__":Str))=false:=by decide) (hcd:(x == ("__classdict__":Str))=false:=by decide):PE X (.Name x pos) (mX i):=by
 intro pins s σ H Q I h
 obtain⟨v,e,h⟩:=h
 obtain⟨m,hn,hl⟩:=I.loc
 obtain⟨u,r,l⟩:=hl i x v hN e hv
 have fin:EP X pins σ Q u s:=⟨v,H,I,r,h⟩
 rcases l with ⟨hk,hm⟩ | ⟨hk,c,hc,hcell⟩
 · exact wpAny_Name (wpAny_loadName_local I.ok.kind hk hn hm fin) hd
 · rcases hk with hk | hk
   · exact wpAny_Name (wpAny_loadName_cell I.ok.kind hk hc hcell fin) hd
   · exact wpAny_Name (wpAny_loadName_free I.ok.kind hk hc hcell fin hcd) hd
theorem zF {i j pos}:PE X (.Constant (.int i) j pos) (tC (.int i)):=fun _ _ _ H _ I h=>wpAny_Constant_int ⟨.int i,H,I.tok _,⟨_,rfl⟩,h⟩
theorem xR {b j pos}:PE X (.Constant (.bool b) j pos) (tC (.bl b)):=fun _ _ _ H _ I h=>Constant_bool ⟨.bl b,H,I,rfl,h⟩
theorem yM {j pos}:PE X (.Constant .none j pos) (tC .non):=fun _ _ _ H _ I h=>Constant_none ⟨.non,H,I,rfl,h⟩
theorem zS {x j pos}:PE X (.Constant (.str x) j pos) (tC (.str x)):=fun _ _ _ H _ I h=>Calls.Constant_str ⟨.str x,H,I.tok _,⟨_,rfl⟩,h⟩
def Gl (X:Cx) (x:Str):Prop:=X.env.kindOf x=some .globalImplicit
theorem rU {E:Value→Shared→Prop}{pins:List (Addr × Obj)}{s:Shared}{σ:St}{H:Hp}{x:Str}{u:Value}{pos:Pos}{Q:Value→Shared→Prop} (I:Inv X pins σ H s) (hg:Gl X x) (hm:X.mg x=some u) (h:Q u s)
   (hd:(x == ("__debug__":Str))=false:=by decide):wpAny (model X.prog X.w) X.A (eval (.Name x pos) X.env) Q E s :=
 Calls.Name_function_global I.ok.kind hg (Calls.loadGlobal_global (by rw [I.ok.glob];exact I.mod.glob.keeps I.bk) hm h) hd
theorem Hs {E:Value→Shared→Prop}{pins:List (Addr × Obj)}{s:Shared}{σ:St}{H:Hp}{x:Str}{u:Value}{pos:Pos}{Q:Value→Shared→Prop} (I:Inv X pins σ H s) (hg:Gl X x) (hm:X.mg x=none) (hv:bootBuiltins x=some u) (h:Q u s)
   (hn:x≠"__name__":=by decide) (hd:(x == ("__debug__":Str))=false:=by decide):wpAny (model X.prog X.w) X.A (eval (.Name x pos) X.env) Q E s:=by
 obtain⟨mb,h1,h2⟩:=I.mod.blt
 exact Calls.Name_function_global I.ok.kind hg (Calls.loadGlobal_builtin (by rw [I.ok.glob];exact I.mod.glob.keeps I.bk) hm (by rw [I.ok.blt];exact h1.keeps I.bk) ((h2 x hn).trans hv) h) hd
theorem Wg {x:Str}{v:V}{u:Value}{pos:Pos} (hg:Gl X x) (hm:X.mg x=some u) (r:RelV v u) (hd:(x == ("__debug__":Str))=false:=by decide):PE X (.Name x pos) (tC v) :=
 fun _ _ _ H _ I h=>rU I hg hm ⟨v,H,I,r,h⟩ hd
theorem yX {x:Str}{v:V}{u:Value}{pos:Pos} (hg:Gl X x) (hm:X.mg x=none) (hv:bootBuiltins x=some u) (r:RelV v u) (hn:x≠"__name__":=by decide) (hd:(x == ("__debug__":Str))=false:=by decide):PE X (.Name x pos) (tC v) :=
 fun _ _ _ H _ I h=>Hs I hg hm hv ⟨v,H,I,r,h⟩ hn hd
variable {a b:Expr}{ta tb:TE}{pos:Pos}
def PC (X:Cx) (op:CmpOp) (a b:Expr) (t:TE):Prop :=
 ∀ (pins:List (Addr × Obj)) (s:Shared) (σ:St) (H:Hp) (Q:VK),Inv X pins σ H s→t σ H Q →
   wpAny (model X.prog X.w) X.A (eval a X.env) (fun v s₁=>wpAny (model X.prog X.w) X.A (eval b X.env) (fun u s₂=>wpAny (model X.prog X.w) X.A (compareOp op v u) (EP X pins σ Q) X.xe s₂) X.xe s₁) X.xe s
def tB (t:TE):TT:=fun σ H Q=>t σ H fun x H1=>∃ c,x=.bl c∧Q c H1
theorem yN {e:Expr}{t:TE} (h:PE X e t) (he:∀ whole,isTrue e X.env whole=(do let v ← whole;standAt e.pos;holding [v] (truthy v)):=by intro _;rfl):PT X e (tB t):=by
 intro pins s σ H Q I hw
 refine isTrue_plain (dO (h pins s σ H _ I hw) fun v s1 ⟨x,H1,I1,r1,q1⟩=>?_) (he _)
 obtain⟨d,rfl,q⟩:=q1
 cases r1
 exact wpAny_truthy_bool ⟨H1,I1,q⟩
variable {tA tB':TT}{rest:List Expr}
def Qm (t u:TT):TT:=fun σ H Q=>t σ H fun c H1=>if c=true then u σ H1 Q else Q false H1
def tOr (t u:TT):TT:=fun σ H Q=>t σ H fun c H1=>if c=true then Q true H1 else u σ H1 Q
def ao9 (t:TT):TT:=fun σ H Q=>t σ H fun c H1=>Q (!c) H1
theorem xC (ha:PT X a tA):PW X (.BoolOp .And [a] pos) tA:=by
 intro wh pins s σ H Q I h
 refine isTrue_and (dO (ha pins s σ H Q I h) fun c s1 e=>?_)
 cases c with
 | true=>exact isTrue_and_nil e
 | false=>exact e
theorem o7 (ha:PT X a tA):PW X (.BoolOp .Or [a] pos) tA:=by
 intro wh pins s σ H Q I h
 refine isTrue_or (dO (ha pins s σ H Q I h) fun c s1 e=>?_)
 cases c with
 | false=>exact isTrue_or_nil e
 | true=>exact e
theorem xK (ha:PT X a tA) (hb:PW X (.BoolOp .And (b::rest) pos) tB'):PW X (.BoolOp .And (a::b::rest) pos) (Qm tA tB'):=by
 intro wh pins s σ H Q I h
 refine isTrue_and (dO (ha pins s σ H _ I h) fun c s1 zq=>?_)
 obtain⟨H1,I1,q1⟩:=zq
 cases c with
 | true=>exact hb wh pins s1 σ H1 Q I1 q1
 | false=>exact⟨H1,I1,q1⟩
theorem vh (ha:PT X a tA) (hb:PW X (.BoolOp .Or (b::rest) pos) tB'):PW X (.BoolOp .Or (a::b::rest) pos) (tOr tA tB'):=by
 intro wh pins s σ H Q I h
 refine isTrue_or (dO (ha pins s σ H _ I h) fun c s1 zq=>?_)
 obtain⟨H1,I1,q1⟩:=zq
 cases c with
 | true=>exact⟨H1,I1,q1⟩
 | false=>exact hb wh pins s1 σ H1 Q I1 q1
theorem jY (ha:PT X a tA):PT X (.UnaryOp .Not a pos) (ao9 tA):=by
 intro pins s σ H Q I h
 exact isTrue_not (ha pins s σ H (fun c H1=>Q (!c) H1) I h)
def adg (ta tb:TE):TE:=fun σ H Q=>ta σ H fun x H1=>∃ c,x=.bl c∧if c=true then tb σ H1 Q else Q (.bl false) H1
theorem BK {op}{t:TE} (h:PE X a t):PE X (.BoolOp op [a] pos) t:=fun pins s σ H Q I hw=>BoolOp_one (h pins s σ H Q I hw)
theorem wU (ha:PE X a ta) (hb:PE X (.BoolOp .And (b::rest) pos) tb):PE X (.BoolOp .And (a::b::rest) pos) (adg ta tb):=by
 intro pins s σ H Q I h
 refine BoolOp_and (dO (ha pins s σ H _ I h) fun v s1 zq=>?_)
 obtain⟨x,H1,I1,r1,q1⟩:=zq
 obtain⟨c,rfl,q1⟩:=q1
 cases r1
 refine wpAny_truthy_bool ?_
 cases c with
 | true=>exact hb pins s1 σ H1 Q I1 q1
 | false=>exact⟨.bl false,H1,I1,rfl,q1⟩
def tIf (t:TT) (ta tb:TE):TE:=fun σ H Q=>t σ H fun c H1=>if c=true then ta σ H1 Q else tb σ H1 Q
theorem oK {c:Expr} (hc:PT X c tA) (ha:PE X a ta) (hb:PE X b tb):PE X (.IfExp c a b pos) (tIf tA ta tb):=by
 intro pins s σ H Q I h
 refine wpAny_IfExp (dO (hc pins s σ H _ I h) fun d s1 zq=>?_)
 obtain⟨H1,I1,q1⟩:=zq
 cases d with
 | true=>exact ha pins s1 σ H1 Q I1 q1
 | false=>exact hb pins s1 σ H1 Q I1 q1
end
end L2
namespace L2
open PySem PySem.Spec PyProof.Rows
def cB (K:PySem.W.Frag) (H:Hp) (a:Addr) (xs:List V):Prop :=
 Rd H a (.lst xs) ∨
   ∃ (o:Obj) (its:Array Value) (n:Nat),K.lookup a=some o∧o.cls=.type "list"∧o.dict=none∧o.data=.seq its n∧its.size≤sizeLine∧Vals xs its.toList
def eY (K:PySem.W.Frag) (H:Hp) (a:Addr) (xs:List V):Prop :=
 Rd H a (.tup xs) ∨
   ∃ (o:Obj) (its:Array Value) (n:Nat),K.lookup a=some o∧o.cls=.type "tuple"∧o.data=.seq its n∧its.size≤sizeLine∧Vals xs its.toList
def apa:Value→Option V
 | .none=>some .non
 | .bool b=>some (.bl b)
 | .int i _=>some (.int i)
 | .str x _=>some (.str x)
 | .bytes b _=>some (.O5 b)
 | .float b _=>some (.flt b)
 | .ref a=>some (.ref a)
 | .type n=>some (.ty n)
 | _=>none
theorem RelV.abs {x:V}{u:Value} (r:RelV x u):apa u=some x:=by
 cases x with
 | non=>cases r;rfl
 | bl _=>cases r;rfl
 | int _=>obtain⟨t,rfl⟩:=r;rfl
 | str _=>obtain⟨t,rfl⟩:=r;rfl
 | O5 _=>obtain⟨t,rfl⟩:=r;rfl
 | flt _=>obtain⟨t,rfl⟩:=r;rfl
 | ref _=>cases r;rfl
 | ty _=>cases r;rfl
theorem RelV.inj {x y:V}{u:Value} (r:RelV x u) (q:RelV y u):x=y:=Option.some.inj (r.abs.symm.trans q.abs)
theorem Vals.inj:∀ {xs ys:List V}{us:List Value},Vals xs us→Vals ys us→xs=ys
 | _,_,_,.nil,.nil=>rfl
 | _,_,_,.cons r t,.cons r' t'=>by rw [r.inj r',Vals.inj t t']
section
variable {X:Cx}{pins:List (Addr × Obj)}{σ:St}{H:Hp}{s:Shared}{a:Addr}{xs ys:List V}
theorem cB.of {K:PySem.W.Frag} (h:H a=some (.lst xs)):cB K H a xs:=.inl (.inl h)
theorem eY.of {K:PySem.W.Frag} (h:H a=some (.tup xs)):eY K H a xs:=.inl (.inl h)
theorem Inv.list (I:Inv X pins σ H s) (h:cB X.K H a xs):∃ its:List Value,Vals xs its∧PlainL s.heap a its.toArray∧xs.length≤sizeLine:=by
 rcases h with h | ⟨o,its,n,hk,hc,hd,hs,hz,r⟩
 · obtain⟨z,its,n,r,e⟩:=h.ok I.hok
   exact⟨its,r,⟨_,n,e,rfl,rfl,rfl⟩,z⟩
 · refine⟨its.toList,r,⟨o,n,I.By a o hk,hc,hd,by simpa using hs⟩,?_⟩
   have e:=r.length
   simp only [Array.length_toList] at e
   omega
theorem Inv.tuple (I:Inv X pins σ H s) (h:eY X.K H a xs):∃ its:List Value,Vals xs its∧IsTup s.heap a its.toArray∧xs.length≤sizeLine:=by
 rcases h with h | ⟨o,its,n,hk,hc,hs,hz,r⟩
 · obtain⟨z,its,r,p⟩:=h.ok I.hok
   exact⟨its,r,p,z⟩
 · refine⟨its.toList,r,⟨o,I.By a o hk,hc,n,by simpa using hs⟩,?_⟩
   have e:=r.length
   simp only [Array.length_toList] at e
   omega
theorem Inv.Rn (I:Inv X pins σ H s) (h:cB X.K H a xs) (h':cB X.K H a ys):xs=ys:=by
 obtain⟨its,r,⟨o,n,e,_,_,d⟩,_⟩:=I.list h
 obtain⟨its',r',⟨o',n',e',_,_,d'⟩,_⟩:=I.list h'
 rw [e] at e';cases e'
 rw [d] at d'
 injection d' with d1 _
 have:its=its':=by simpa using congrArg Array.toList d1
 subst this
 exact r.inj r'
theorem Inv.Qn (I:Inv X pins σ H s) (h:eY X.K H a xs) (h':eY X.K H a ys):xs=ys:=by
 obtain⟨its,r,⟨o,e,_,n,d⟩,_⟩:=I.tuple h
 obtain⟨its',r',⟨o',e',_,n',d'⟩,_⟩:=I.tuple h'
 rw [e] at e';cases e'
 rw [d] at d'
 injection d' with d1 _
 have:its=its':=by simpa using congrArg Array.toList d1
 subst this
 exact r.inj r'
end
abbrev Cx.wish (X:Cx) (E:Value→Shared→Prop):Cx:={ X with xe:=E }
abbrev Cx.Fd (X:Cx):Cx:=X.wish fun _ _=>False
theorem Cx.Ok.wish {X:Cx} (ok:X.Ok) (E:Value→Shared→Prop):(X.wish E).Ok :=
 ⟨ok.mod,ok.kind,ok.glob,ok.blt,ok.above,ok.inj,ok.has,ok.cab,ok.hd,ok.frames,ok.stk,ok.exf,ok.bs,ok.Ql,ok.Rk,ok.We,ok.qz,ok.Rm⟩
theorem Cx.Ok.jZ {X:Cx}{E:Value→Shared→Prop} (ok:(X.wish E).Ok):X.Ok :=
 ⟨ok.mod,ok.kind,ok.glob,ok.blt,ok.above,ok.inj,ok.has,ok.cab,ok.hd,ok.frames,ok.stk,ok.exf,ok.bs,ok.Ql,ok.Rk,ok.We,ok.qz,ok.Rm⟩
section
variable {X:Cx}{pins:List (Addr × Obj)}{σ:St}{H:Hp}{s:Shared}{E:Value→Shared→Prop}
theorem Inv.wish (I:Inv X pins σ H s) (E:Value→Shared→Prop):Inv (X.wish E) pins σ H s:=⟨I.ok.wish E,I.os,I.bare,I.base,I.loc,I.cell,I.free,I.jM,I.pin,I.hok,I.len⟩
theorem Inv.jZ (I:Inv (X.wish E) pins σ H s):Inv X pins σ H s:=⟨I.ok.jZ,I.os,I.bare,I.base,I.loc,I.cell,I.free,I.jM,I.pin,I.hok,I.len⟩
theorem SP.jZ {D:Ends}{f:Flow}{s':Shared} (h:SP (X.wish E) pins D f s'):SP X pins D f s':=by
 cases f with
 | next=>obtain⟨σ',H',I,q⟩:=h;exact⟨σ',H',I.jZ,q⟩
 | brk=>obtain⟨σ',H',I,q⟩:=h;exact⟨σ',H',I.jZ,q⟩
 | cont=>obtain⟨σ',H',I,q⟩:=h;exact⟨σ',H',I.jZ,q⟩
 | ret u=>obtain⟨v,σ',H',I,r,q⟩:=h;exact⟨v,σ',H',I.jZ,r,q⟩
theorem PE.Fd {e:Expr}{t:TE} (h:PE X.Fd e t):PE X e t:=fun pins s σ H Q I hw =>
 wpAny_mono (h pins s σ H Q (I.wish _) hw) (fun _ _ ⟨v,H',I',r,q⟩=>⟨v,H',I'.jZ,r,q⟩) fun _ _ z=>False.elim z
theorem PT.Fd {e:Expr}{t:TT} (h:PT X.Fd e t):PT X e t:=fun pins s σ H Q I hw =>
 wpAny_mono (h pins s σ H Q (I.wish _) hw) (fun _ _ ⟨H',I',q⟩=>⟨H',I'.jZ,q⟩) fun _ _ z=>False.elim z
theorem o6.Fd {st:List Stmt}{t:TS} (h:o6 X.Fd st t):o6 X st t:=fun pins s σ H D I hw =>
 wpAny_mono (h pins s σ H D (I.wish _) hw) (fun _ _ q=>q.jZ) fun _ _ z=>False.elim z
end
section
variable {X:Cx}{st:Stmt}{rest:List Stmt}{t u:TS}{e:Expr}{te:TE}{pos:Pos}
def Ro:TS:=fun D σ H=>D.nx σ H
def Wh (t u:TS):TS:=fun D σ H=>t { D with nx:=u D } σ H
theorem zP:o6 X [] Ro:=fun _ _ σ H _ I h=>wpAny_execs_nil ⟨σ,H,I,h⟩
theorem zC (h1:PS X st t) (h2:o6 X rest u):o6 X (st::rest) (Wh t u):=by
 intro pins s σ H D I h
 refine wpAny_execs_cons (dO (h1 pins s σ H { D with nx:=u D } I h) fun f s1 q=>?_)
 cases f with
 | next =>
   obtain⟨σ',H',I',q⟩:=q
   exact h2 pins s1 σ' H' D I' q
 | ret v=>exact q
 | brk=>exact q
 | cont=>exact q
theorem zE (h1:PS X st t):o6 X [st] t:=by
 intro pins s σ H D I h
 refine wpAny_execs_cons (dO (h1 pins s σ H D I h) fun f s1 q=>?_)
 cases f with
 | next=>exact wpAny_execs_nil q
 | ret v=>exact q
 | brk=>exact q
 | cont=>exact q
theorem Inv.quiet {pins:List (Addr × Obj)}{σ:St}{H:Hp}{s:Shared} (I:Inv X pins σ H s):interactive X.env=false:=by simp [interactive,I.ok.kind]
def adh (te:TE):TS:=fun D σ H=>te σ H fun _ H1=>D.nx σ H1
theorem yE (he:PE X e te) (hs:swapsWith e none pos.line X.env=pure false:=by rfl):PS X (.Expr e pos) (adh te):=by
 intro pins s σ H D I h
 exact wpAny_Expr_any (dO (he pins s σ H _ I h) fun v s1 ⟨x,H1,I1,r1,q1⟩=>⟨σ,H1,I1,q1⟩) I.quiet hs
def Wi (te:TE):TS:=fun D σ H=>te σ H D.rt
theorem zK (he:PE X e te):PS X (.Return (some e) pos) (Wi te):=by
 intro pins s σ H D I h
 exact wpAny_Return_some (dO (he pins s σ H _ I h) fun v s1 ⟨x,H1,I1,r1,q1⟩=>⟨x,σ,H1,I1,r1,q1⟩)
def adi:TS:=fun D _ H=>D.rt .non H
theorem Wj:PS X (.Return none pos) adi:=fun _ _ σ H _ I h=>wpAny_Return_none ⟨.non,σ,H,I,rfl,h⟩
def ZC (c:TT) (t u:TS):TS:=fun D σ H=>c σ H fun b H1=>if b=true then t D σ H1 else u D σ H1
theorem yB {c:Expr}{a b:List Stmt}{tc:TT} (hc:PT X c tc) (ha:o6 X a t) (hb:o6 X b u):PS X (.If c a b pos) (ZC tc t u):=by
 intro pins s σ H D I h
 refine wpAny_If (dO (hc pins s σ H _ I h) fun d s1 zq=>?_)
 obtain⟨H1,I1,q1⟩:=zq
 cases d with
 | true=>exact ha pins s1 σ H1 D I1 q1
 | false=>exact hb pins s1 σ H1 D I1 q1
end
abbrev TG:=V→St→Hp→(St→Hp→Prop)→Prop
abbrev ZD:=List V→St→Hp→(St→Hp→Prop)→Prop
def PG (X:Cx) (target:Expr) (t:TG):Prop :=
 ∀ (pins:List (Addr × Obj)) (s:Shared) (σ:St) (H:Hp) (v:V) (u:Value) (Q:St→Hp→Prop),Inv X pins σ H s→RelV v u→t v σ H Q →
   wpAny (model X.prog X.w) X.A (assign target X.env u) (fun _ s'=>∃ σ' H',Inv X pins σ' H' s'∧Q σ' H') X.xe s
def yz (X:Cx) (ts:List Expr) (t:ZD):Prop :=
 ∀ (pins:List (Addr × Obj)) (s:Shared) (σ:St) (H:Hp) (vs:List V) (us:List Value) (Q:St→Hp→Prop),Inv X pins σ H s→Vals vs us→t vs σ H Q →
   wpAny (model X.prog X.w) X.A (assignInOrder ((assignEach ts X.env).map (·.2)) us) (fun _ s'=>∃ σ' H',Inv X pins σ' H' s'∧Q σ' H') X.xe s
abbrev apb:=V→V→V→Hp→(Hp→Prop)→Prop
def mY (X:Cx) (t:apb):Prop :=
 ∀ (pins:List (Addr × Obj)) (s:Shared) (σ:St) (H:Hp) (o i v:V) (ov iv u:Value) (Q:Hp→Prop),Inv X pins σ H s→RelV o ov→RelV i iv→RelV v u→t o i v H Q →
   wpAny (model X.prog X.w) X.A (setItem ov iv u) (fun _ s'=>∃ H',Inv X pins σ H' s'∧Q H') X.xe s
abbrev TIp:=V→V→Hp→VK→Prop
def PIp (X:Cx) (op:Operator) (t:TIp):Prop :=
 ∀ (pins:List (Addr × Obj)) (s:Shared) (σ:St) (H:Hp) (x y:V) (v u:Value) (Q:VK),Inv X pins σ H s→RelV x v→RelV y u→t x y H Q →
   wpAny (model X.prog X.w) X.A (inplaceOp op v u) (EP X pins σ Q) X.xe s
section
variable {X:Cx}{pos:Pos}
def bO (i:Nat):TG:=fun v σ H Q=>Q (σ.set i (some v)) H
theorem yW {i:Nat}{x:Str} (hN:X.N.Nodup) (hi:X.N[i]? = some x) (hx:Loc X.env.scope x) (hf:X.fn x=true∨X.env.scope.names.lookup x=some .local:=by first | exact .inl rfl | exact .inr rfl | assumption):PG X (.Name x pos) (bO i):=by
 intro pins s σ H v u Q I r h
 exact wpAny_assign_Name (vg I hN hi hx r (fun s' I'=>⟨_,H,I',h⟩) hf)
def adk:ZD:=fun vs σ H Q=>vs=[]∧Q σ H
def Rp (t:TG) (u:ZD):ZD:=fun vs σ H Q=>∃ v r,vs=v::r∧t v σ H fun σ' H'=>u r σ' H' Q
theorem Bq:yz X [] adk:=by
 intro pins s σ H vs us Q I r h
 obtain⟨e,h⟩:=h
 subst e
 cases r
 exact assignInOrder_nil ⟨σ,H,I,h⟩
theorem jN {e:Expr}{es:List Expr}{t:TG}{u:ZD} (h1:PG X e t) (h2:yz X es u)
   (hs:(assignEach (e::es) X.env).map (·.2)=assign e X.env::(assignEach es X.env).map (·.2):=by rfl):yz X (e::es) (Rp t u):=by
 intro pins s σ H vs us Q I r h
 obtain⟨v,vr,e1,h⟩:=h
 subst e1
 cases r with
 | cons r rr =>
   rw [hs]
   refine assignInOrder_cons (dO (h1 pins s σ H _ _ _ I r h) fun _ s1 zq=>?_)
   obtain⟨σ1,H1,I1,q1⟩:=zq
   exact h2 pins s1 σ1 H1 _ _ Q I1 rr q1
def adl (K:PySem.W.Frag) (n:Nat) (t:ZD):TG:=fun v σ H Q=>∃ a xs,v=.ref a∧eY K H a xs∧xs.length=n∧t xs σ H Q
theorem Ht {es:List Expr}{k:Nat}{t:ZD}{n:Nat} (hc:X.calm=true) (h:yz X es t)
   (hn:(assignEach es X.env).length=n:=by rfl) (hst:(assignEach es X.env).findIdx? (·.1)=none:=by rfl):PG X (.Tuple es k pos) (adl X.K n t):=by
 intro pins s σ H v u Q I r hw
 obtain⟨a,xs,e1,hq,hl,hw⟩:=hw
 subst e1
 cases r
 obtain⟨its,rv,ht,hz⟩:=I.tuple hq
 refine assign_Tuple_tuple (I.ok.hd hc) ht (by simp [hn,← hl,rv.length]) hst fun h' hx=>?_
 have I1:Inv X pins σ H { s with heap:=h' }:=I.kept (t':=s.toks) fun b o e=>hx b o (Nat.ne_of_lt (Heap.lt_size e)) e
 exact h pins _ σ H xs _ Q I1 (by simpa using rv) hw
def Qo (te:TE) (g:TG):TS:=fun D σ H=>te σ H fun x H1=>g x σ H1 D.nx
theorem Rq {tg e:Expr}{te:TE}{g:TG} (he:PE X e te) (hg:PG X tg g) (hs:swapsWithSole [tg] e pos.line X.env=pure false:=by rfl) (hw:swappedStores [tg] e X.env=pure none:=by rfl)
   (h1:(assignEach [tg] X.env).map (·.2)=[assign tg X.env]:=by rfl):PS X (.Assign [tg] e pos) (Qo te g):=by
 intro pins s σ H D I h
 refine wpAny_Assign_stores (dO (he pins s σ H _ I h) fun v s1 ⟨x,H1,I1,r1,q1⟩=>?_) hs hw
 rw [h1]
 exact dO (hg pins s1 σ H1 x v _ I1 r1 q1) fun _ s2 q=>q
theorem zQ {i:Nat}{x:Str}{e:Expr}{te:TE}{pos':Pos} (hN:X.N.Nodup) (hi:X.N[i]? = some x) (hx:Loc X.env.scope x) (he:PE X e te) (hs:swapsWith e (some (.Name x pos')) pos.line X.env=pure false:=by rfl) (hf:X.fn x=true∨X.env.scope.names.lookup x=some .local:=by first | exact .inl rfl | exact .inr rfl | assumption) :
   PS X (.Assign [.Name x pos'] e pos) (Qo te (bO i)):=by
 intro pins s σ H D I h
 refine wpAny_Assign_Name (dO (he pins s σ H _ I h) fun v s1 ⟨y,H1,I1,r1,q1⟩=>?_) hs
 exact vg I1 hN hi hx r1 (fun s2 I2=>⟨_,H1,I2,q1⟩) hf
def apd (i:Nat) (te:TE) (ti:TIp):TS:=fun D σ H=>∃ x,σ[i]? = some (some x)∧te σ H fun y H1=>ti x y H1 fun z H2=>D.nx (σ.set i (some z)) H2
theorem ZF {i:Nat}{x:Str}{e:Expr}{te:TE}{op:Operator}{ti:TIp}{pos':Pos} (hN:X.N.Nodup) (hi:X.N[i]? = some x) (hx:Loc X.env.scope x) (he:PE X e te) (ho:PIp X op ti) (hf:X.fn x=true∨X.env.scope.names.lookup x=some .local:=by first | exact .inl rfl | exact .inr rfl | assumption) :
   PS X (.AugAssign (.Name x pos') op e pos) (apd i te ti):=by
 intro pins s σ H D I h
 obtain⟨v,e1,h⟩:=h
 obtain⟨m,hn,hl⟩:=I.loc
 have vis:Vis X.env.scope x:=by rcases hx with k | k;exact .inl k;exact .inr (.inl k)
 obtain⟨u,r,l⟩:=hl i x v hi e1 vis
 refine wpAny_AugAssign_Name ?_
 have go:wpAny (model X.prog X.w) X.A (eval e X.env) (fun w s₂=>wpAny (model X.prog X.w) X.A (inplaceOp op u w) (fun r s₃=>wpAny (model X.prog X.w) X.A (storeName X.env x r) (fun _=>SP X pins D .next) X.xe s₃) X.xe s₂) X.xe s:=by
   refine dO (he pins s σ H _ I h) fun w s1 zq=>?_
   obtain⟨y,H1,I1,r1,q1⟩:=zq
   refine dO (ho pins s1 σ H1 v y u w _ I1 r r1 q1) fun z s2 zq=>?_
   obtain⟨zv,H2,I2,r2,q2⟩:=zq
   exact vg I2 hN hi hx r2 (fun s3 I3=>⟨_,H2,I3,q2⟩) hf
 rcases l with ⟨hk,hm⟩ | ⟨hk,c,hc,hcell⟩
 · exact wpAny_loadName_local I.ok.kind hk hn hm go
 · rcases hk with hk | hk
   · exact wpAny_loadName_cell I.ok.kind hk hc hcell go
   · rcases hx with k | k
     · have:X.env.scope.names.lookup x=some .free:=hk
       rw [k] at this;cases this
     · have:X.env.scope.names.lookup x=some .free:=hk
       rw [k] at this;cases this
end
section
variable {X:Cx}{pos:Pos}
def Rr (c:TT) (tb:TS):TS:=fun D σ H=>∃ W:Nat→St→Hp→Prop,(∃ m,W m σ H)∧∀ m σ H,W m σ H →
 c σ H fun b H1=>if b=true then ∃ N:St→Hp→Prop,(∀ σ' H',N σ' H'→∃ m',m'<m∧W m' σ' H')∧tb { D with nx:=N,ct:=N,bk:=D.nx } σ H1 else D.nx σ H1
theorem Rt {c:Expr}{body:List Stmt}{tc:TT}{tb:TS} (hp:PassesOwn (model X.prog X.w) X.A X.env X.xe) (hc:PT X c tc) (hb:o6 X body tb):PS X (.While c body [] pos) (Rr tc tb):=by
 intro pins s σ H D I h
 obtain⟨W,⟨m0,w0⟩,turn⟩:=h
 refine wpAny_While (codeAny_whileLoop (fun n s'=>∃ σ' H',Inv X pins σ' H' s'∧W n σ' H') ?_ m0 ⟨σ,H,I,w0⟩)
 rintro n s1 ⟨σ1,H1,I1,w1⟩
 refine wpAny_passesOwn hp (dO (hc pins s1 σ1 H1 _ I1 (turn n σ1 H1 w1)) fun b s2 zq=>?_)
 obtain⟨H2,I2,q2⟩:=zq
 cases b with
 | true =>
   obtain⟨N,hN,q2⟩:=q2
   rw [if_pos rfl]
   refine wpAny_passesOwn hp (dO (hb pins s2 σ1 H2 _ I2 q2) fun f s3 q3=>?_)
   cases f with
   | next =>
     obtain⟨σ3,H3,I3,n3⟩:=q3
     obtain⟨m',hm,w3⟩:=hN σ3 H3 n3
     exact⟨m',hm,σ3,H3,I3,w3⟩
   | cont =>
     obtain⟨σ3,H3,I3,n3⟩:=q3
     obtain⟨m',hm,w3⟩:=hN σ3 H3 n3
     exact⟨m',hm,σ3,H3,I3,w3⟩
   | brk=>exact q3
   | ret v=>exact q3
 | false =>
   rw [if_neg Bool.false_ne_true]
   exact wpAny_execs_nil ⟨σ1,H2,I2,q2⟩
end
structure It where
 go:Nat→Hp→Prop
 Ml:Nat→Hp→V→Hp→Prop
 stop:Nat→Hp→Prop
def kZ (X:Cx) (pins:List (Addr × Obj)) (H:Hp) (b:Addr):Prop :=
 H b=none∧b≠X.env.locals∧b∉X.fs∧(b∈X.ex∨X.s₀.heap.objs.size≤b)∧(∀ x c,X.env.cells.lookup x=some c→c≠b)∧∀ p∈X.pn++pins,p.1≠b
theorem Inv.JC {X:Cx}{pins:List (Addr × Obj)}{σ:St}{H H':Hp}{s:Shared}{b:Addr} (I:Inv X pins σ H s) (hb:s.heap.objs.size≤b) (hn:H' b=none):kZ X pins H' b:=by
 refine⟨hn,Nat.ne_of_gt (Nat.lt_of_lt_of_le I.lt hb),I.Wf hb,.inr (Nat.le_trans I.sz hb),fun x c e z=>?_,fun p hp z=>?_⟩
 · obtain⟨v,q⟩:=I.cell x c e
   exact absurd (Nat.lt_of_lt_of_le q.lt (by rw [z];exact hb)) (Nat.lt_irrefl _)
 · exact absurd (Nat.lt_of_lt_of_le (Heap.lt_size (I.pin p hp).1) (by rw [z];exact hb)) (Nat.lt_irrefl _)
structure Turn (P:Program) (w:World) (K:PySem.W.Frag) (tg:Expr) (J:It) (fp:List Addr) (it:Addr) (tn:Nat→Heap→Prop):Prop where
 mem:it∈fp
 obj:∀ i h,tn i h→∀ b∈fp,∃ o,h.get? b=some o∧∀ v,o.data≠.cell v
 keep:∀ i h h',tn i h→(∀ b∈fp,∀ o,h.get? b=some o→h'.get? b=some o)→tn i h'
 item:∀ (X:Cx),X.prog=P→X.w=w→X.K=K→X.calm=true→∀ (i:Nat) (pins:List (Addr × Obj)) (s:Shared) (σ:St) (H:Hp) (E:Value→Shared→Prop),Inv X pins σ H s→(∀ b∈fp,kZ X pins H b)→tn i s.heap→J.go i H →
   wpAny (model P w) X.A (pyNext (.ref it)) (fun r s1=>∃ u,r=some u ∧
     wpAny (model P w) X.A (letOwnedTupleGo tg (.ref it) u) (fun _ s2=>∃ x H',Inv X pins σ H' s2∧RelV x u∧J.Ml i H x H'∧tn (i+1) s2.heap∧∀ b∈fp,H' b=none) E s1) E s
 done:∀ (X:Cx),X.prog=P→X.w=w→X.K=K→X.calm=true→∀ (i:Nat) (pins:List (Addr × Obj)) (s:Shared) (σ:St) (H:Hp) (E:Value→Shared→Prop),Inv X pins σ H s→(∀ b∈fp,kZ X pins H b)→tn i s.heap→J.stop i H →
   wpAny (model P w) X.A (pyNext (.ref it)) (fun r s1=>r=none∧Inv X pins σ H s1) E s
 self:∀ (A:Around) (i:Nat) (s:Shared) (Q:Value→Shared→Prop) (E:Value→Shared→Prop),tn i s.heap→Q (.ref it) s→wpAny (model P w) A (pyIter (.ref it)) Q E s
abbrev TI:=St→Hp→(It→Hp→Prop)→Prop
def PIE (X:Cx) (pins:List (Addr × Obj)) (σ:St) (tg:Expr) (R:It→Hp→Prop) (itv:Value) (s2:Shared):Prop :=
 ∃ (it:Addr) (fp:List Addr) (tn:Nat→Heap→Prop) (J:It) (H':Hp),itv=.ref it∧Inv X pins σ H' s2∧Turn X.prog X.w X.K tg J fp it tn∧tn 0 s2.heap∧(∀ b∈fp,kZ X pins H' b)∧R J H'
def PI (X:Cx) (tg iter:Expr) (wi:TI):Prop :=
 ∀ (pins:List (Addr × Obj)) (s:Shared) (σ:St) (H:Hp) (R:It→Hp→Prop),Inv X pins σ H s→wi σ H R →
   wpAny (model X.prog X.w) X.A (eval iter X.env) (fun v s1=>wpAny (model X.prog X.w) X.A (pyIter v) (PIE X pins σ tg R) X.xe s1) X.xe s
theorem Ru {M:Model}{A:Around}{E:Value→Shared→Prop}{s:Shared}{tg:Expr}{it:Addr}{u:Value}{o:Obj}{n:String}{vs:Array Value}{Q:Unit→Shared→Prop} (ho:s.heap.get? it=some o) (hc:o.cls=.type n) (hd:o.data=.fields vs)
   (hn:["enumerate","zip","dict_itemiterator","dict_reverseitemiterator","odict_iterator","itertools.zip_longest","itertools.pairwise"].contains n=false) (hQ:Q () s):wpAny M A (letOwnedTupleGo tg (.ref it) u) Q E s:=by
 unfold letOwnedTupleGo
 cases tg <;> first
   | exact wpAny_pure hQ
   | (cases u <;> first
       | exact wpAny_pure hQ
       | (refine wpAny_bind (wpAny_load ho ?_)
          rw [hc,hd]
          show wpAny M A (if (["enumerate","zip","dict_itemiterator","dict_reverseitemiterator","odict_iterator","itertools.zip_longest","itertools.pairwise"].contains n && vs[0]? == some (rawInt _))=true then _ else _) Q E s
          rw [if_neg (by intro h;rw [hn,Bool.false_and] at h;cases h)]
          exact wpAny_pure hQ))
def Yq (K:PySem.W.Frag) (a:Addr):It :=
 ⟨fun i H=>∃ xs x,cB K H a xs∧xs[i]? = some x,fun i H x H'=>H'=H∧∀ xs,cB K H a xs→xs[i]? = some x,fun i H=>∃ xs,cB K H a xs∧xs.length≤i⟩
def Itt (K:PySem.W.Frag) (a:Addr):It :=
 ⟨fun i H=>∃ xs x,eY K H a xs∧xs[i]? = some x,fun i H x H'=>H'=H∧∀ xs,eY K H a xs→xs[i]? = some x,fun i H=>∃ xs,eY K H a xs∧xs.length≤i⟩
def ZG (lo:Int) (n:Nat):It:=⟨fun i _=>i<n,fun i H x H'=>H'=H∧x=.int (lo+i),fun i _=>n≤i⟩
theorem Qp {P:Program}{w:World}{K:PySem.W.Frag}{tg:Expr} (a it:Addr):Turn P w K tg (Yq K a) [it] it (fun i h=>h.IsListIter it a i) where
 mem:=by simp
 obj:=fun i h st b hb=>by
   have e:b=it:=by simpa using hb
   subst e
   obtain⟨o,e,c,d⟩:=st
   exact⟨o,e,fun v z=>by rw [d] at z;cases z⟩
 keep:=fun i h h' st k=>st.at fun o e=>k it (by simp) o e
 item:=by
   intro X hP hw hK hc i pins s σ H E I hf st hg
   subst hP hw hK
   obtain⟨xs,x,hq,hx⟩:=hg
   obtain⟨its,rv,p,hz⟩:=I.list hq
   obtain⟨u,hu,ru⟩:=rv.get hx
   obtain⟨f0,f1,f2,f3,f4,f5⟩:=hf it (by simp)
   refine wpAny_pyNext_list_item st p.isList (x:=u) (by simpa using hu) fun h' st' sb=>?_
   have I1:Inv X pins σ H { s with heap:=h' }:=I.turned (t':=s.toks) (fun b o hb e=>(sb.2 b hb).trans e) f0 f1 f3 f4 f5
   obtain⟨o,e,c,d⟩:=id st'
   exact⟨u,rfl,Ru (s:={ s with heap:=h' }) e c d (by decide) ⟨x,H,I1,ru,⟨rfl,fun ys hy=>by rw [I.Rn hy hq];exact hx⟩,st',fun b hb=>(hf b hb).1⟩⟩
 done:=by
   intro X hP hw hK hc i pins s σ H E I hf st hg
   subst hP hw hK
   obtain⟨xs,hq,hx⟩:=hg
   obtain⟨its,rv,p,hz⟩:=I.list hq
   obtain⟨f0,f1,f2,f3,f4,f5⟩:=hf it (by simp)
   have hl:=rv.length
   exact wpAny_pyNext_list_end (I.ok.hd hc) st p.isList (by simp;omega) fun h' eb=>⟨rfl,I.turned (t':=s.toks) (fun b o hb e=>eb b o hb e) f0 f1 f3 f4 f5⟩
 self:=fun _ _ _ _ _ st h=>wpAny_pyIter_listiter st h
theorem Mm {P:Program}{w:World}{K:PySem.W.Frag}{tg:Expr} (a it:Addr):Turn P w K tg (Itt K a) [it] it (fun i h=>h.IsTupleIter it a i) where
 mem:=by simp
 obj:=fun i h st b hb=>by
   have e:b=it:=by simpa using hb
   subst e
   obtain⟨o,e,c,d⟩:=st
   exact⟨o,e,fun v z=>by rw [d] at z;cases z⟩
 keep:=fun i h h' st k=>st.at fun o e=>k it (by simp) o e
 item:=by
   intro X hP hw hK hc i pins s σ H E I hf st hg
   subst hP hw hK
   obtain⟨xs,x,hq,hx⟩:=hg
   obtain⟨its,rv,p,hz⟩:=I.tuple hq
   obtain⟨u,hu,ru⟩:=rv.get hx
   obtain⟨f0,f1,f2,f3,f4,f5⟩:=hf it (by simp)
   refine wpAny_pyNext_tuple_item st (show s.heap.IsTuple a its.toArray from p) (x:=u) (by simpa using hu) fun h' st' sb=>?_
   have I1:Inv X pins σ H { s with heap:=h' }:=I.turned (t':=s.toks) (fun b o hb e=>(sb.2 b hb).trans e) f0 f1 f3 f4 f5
   obtain⟨o,e,c,d⟩:=id st'
   exact⟨u,rfl,Ru (s:={ s with heap:=h' }) e c d (by decide) ⟨x,H,I1,ru,⟨rfl,fun ys hy=>by rw [I.Qn hy hq];exact hx⟩,st',fun b hb=>(hf b hb).1⟩⟩
 done:=by
   intro X hP hw hK hc i pins s σ H E I hf st hg
   subst hP hw hK
   obtain⟨xs,hq,hx⟩:=hg
   obtain⟨its,rv,p,hz⟩:=I.tuple hq
   obtain⟨f0,f1,f2,f3,f4,f5⟩:=hf it (by simp)
   have hl:=rv.length
   exact wpAny_pyNext_tuple_end (I.ok.hd hc) st (show s.heap.IsTuple a its.toArray from p) (by simp;omega) fun h' eb=>⟨rfl,I.turned (t':=s.toks) (fun b o hb e=>eb b o hb e) f0 f1 f3 f4 f5⟩
 self:=fun _ _ _ _ _ st h=>wpAny_pyIter_tupleiter st h
theorem Mp {P:Program}{w:World}{K:PySem.W.Frag}{tg:Expr} (it:Addr) (lo:Int) (n:Nat):Turn P w K tg (ZG lo n) [it] it (fun i h=>IsRangeIter h it (lo+(i:Nat)*1) ((n:Int) - (i:Nat)) 1) where
 mem:=by simp
 obj:=fun i h st b hb=>by
   have e:b=it:=by simpa using hb
   subst e
   exact⟨_,st,fun v z=>by
     have z':Data.fields _=Data.cell v:=z
     cases z'⟩
 keep:=fun i h h' st k=>k it (by simp) _ st
 item:=by
   intro X hP hw hK hc i pins s σ H E I hf st hg
   subst hP hw hK
   obtain⟨f0,f1,f2,f3,f4,f5⟩:=hf it (by simp)
   have W:=Walks.range (prog:=X.prog) (w:=X.w) (I.ok.hd hc) it lo 1 n
   refine W.item i s _ _ hg st fun v h' tk hv st' kk=>?_
   obtain⟨t,rfl⟩:=hv
   have I1:Inv X pins σ H { s with heap:=h',toks:=tk }:=I.turned (fun b o hb e=>kk b o (by simpa using hb) e) f0 f1 f3 f4 f5
   refine⟨_,rfl,Ru (s:={ s with heap:=h',toks:=tk }) (n:="range_iterator") st' rfl rfl (by decide) ⟨.int (lo+i),H,I1,⟨t,?_⟩,⟨rfl,rfl⟩,st',fun b hb=>(hf b hb).1⟩⟩
   rw [Int.mul_one]
 done:=by
   intro X hP hw hK hc i pins s σ H E I hf st hg
   subst hP hw hK
   obtain⟨f0,f1,f2,f3,f4,f5⟩:=hf it (by simp)
   exact wpAny_pyNext_range_end (I.ok.hd hc) st (by have:n≤i:=hg;omega) fun h' eb=>⟨rfl,I.turned (t':=s.toks) (fun b o hb e=>eb b o hb e) f0 f1 f3 f4 f5⟩
 self:=fun _ _ _ _ _ st h=>wpAny_pyIter_rangeiter st h
end L2
namespace L2
open PySem PySem.Spec PyProof.Rows
section
variable {X:Cx}{tg:Expr}
def adm (K:PySem.W.Frag) (tl:TE):TI:=fun σ H R=>tl σ H fun x H1=>∃ a,x=.ref a∧(∃ xs,cB K H1 a xs)∧R (Yq K a) H1
def apf (K:PySem.W.Frag) (tl:TE):TI:=fun σ H R=>tl σ H fun x H1=>∃ a,x=.ref a∧(∃ xs,eY K H1 a xs)∧R (Itt K a) H1
theorem xH {l:Expr}{tl:TE} (hl:PE X l tl):PI X tg l (adm X.K tl):=by
 intro pins s σ H R I h
 refine dO (hl pins s σ H _ I h) fun v s1 zq=>?_
 obtain⟨x,H1,I1,r1,q1⟩:=zq
 obtain⟨a,e,⟨xs,hq⟩,q⟩:=q1
 subst e
 cases r1
 obtain⟨its,rv,p,hz⟩:=I1.list hq
 refine wpAny_pyIter_list p.isList ?_
 refine⟨s1.heap.objs.size,[s1.heap.objs.size],_,_,H1,rfl,I1.kept (t':=s1.toks) fun b o e=>Heap.get?_push_of_some _ e,Qp a _,⟨_,Heap.get?_push_size _ rfl,rfl,rfl⟩,fun b hb=>?_,q⟩
 have e:b=s1.heap.objs.size:=by simpa using hb
 subst e
 exact I1.JC (Nat.le_refl _) (I1.hok.fresh (Nat.le_refl _))
theorem ZJ {l:Expr}{tl:TE} (hl:PE X l tl):PI X tg l (apf X.K tl):=by
 intro pins s σ H R I h
 refine dO (hl pins s σ H _ I h) fun v s1 zq=>?_
 obtain⟨x,H1,I1,r1,q1⟩:=zq
 obtain⟨a,e,⟨xs,hq⟩,q⟩:=q1
 subst e
 cases r1
 obtain⟨its,rv,p,hz⟩:=I1.tuple hq
 refine wpAny_pyIter_tuple (show s1.heap.IsTuple a its.toArray from p) ?_
 refine⟨s1.heap.objs.size,[s1.heap.objs.size],_,_,H1,rfl,I1.kept (t':=s1.toks) fun b o e=>Heap.get?_push_of_some _ e,Mm a _,⟨_,Heap.get?_push_size _ rfl,rfl,rfl⟩,fun b hb=>?_,q⟩
 have e:b=s1.heap.objs.size:=by simpa using hb
 subst e
 exact I1.JC (Nat.le_refl _) (I1.hok.fresh (Nat.le_refl _))
theorem Rv {pins:List (Addr × Obj)}{σ:St}{H:Hp}{s:Shared}{R:It→Hp→Prop}{E:Value→Shared→Prop}{lo hi:Int}{t u v:Tok}{tk:Nat} (I:Inv X pins σ H s) (h1:-(2 ^ 62)≤lo) (h2:lo<2 ^ 62) (h3:-(2 ^ 62)≤hi) (h4:hi<2 ^ 62)
   (q:R (ZG lo (hi - lo).toNat) H):wpAny (model X.prog X.w) X.A (pyIter (.ref s.heap.objs.size)) (PIE X pins σ tg R) E { s with heap:=s.heap.push { cls:=.type "range",data:=.fields #[.int lo t,.int hi u,.int 1 v] },toks:=tk }:=by
 refine wpAny_pyIter_range (IsRange.new ..) (small_one h1 h2 h3 h4) ?_
 have I1:Inv X pins σ H { s with heap:=s.heap.push { cls:=.type "range",data:=.fields #[.int lo t,.int hi u,.int 1 v] },toks:=tk }:=I.kept fun b o e=>Heap.get?_push_of_some _ e
 refine⟨(s.heap.push { cls:=.type "range",data:=.fields #[.int lo t,.int hi u,.int 1 v] }).objs.size,[(s.heap.push { cls:=.type "range",data:=.fields #[.int lo t,.int hi u,.int 1 v] }).objs.size],_,_,H,rfl,
   I1.kept (t':=tk) fun b o e=>Heap.get?_push_of_some _ e,Mp _ lo (hi - lo).toNat,?_,fun b hb=>?_,q⟩
 · have e1:lo+((0:Nat):Int)*1=lo:=by simp
   have e2:(((hi - lo).toNat:Nat):Int) - ((0:Nat):Int)=Builtin.Range.rangeSize lo hi 1:=by rw [rangeSize_one];split <;> omega
   show IsRangeIter _ _ (lo+((0:Nat):Int)*1) ((((hi - lo).toNat:Nat):Int) - ((0:Nat):Int)) 1
   rw [e1,e2]
   exact Heap.get?_push_size _ rfl
 · have e:b=(s.heap.push { cls:=.type "range",data:=.fields #[.int lo t,.int hi u,.int 1 v] }).objs.size:=by simpa using hb
   subst e
   exact I1.JC (Nat.le_refl _) (I1.hok.fresh (Nat.le_refl _))
def adn (ta:TA):TI:=fun σ H R=>ta σ H fun vs H1=>∃ j:Int,vs=[.int j]∧-(2 ^ 62)≤j∧j<2 ^ 62∧R (ZG 0 j.toNat) H1
theorem Qq {a:Expr}{ta:TA}{p pos:Pos} (hg:Gl X "range") (hm:X.mg "range" = none) (ha:PA X [a] ta) (hs:starEach [a] X.env=[(false,eval a X.env)]:=by rfl):PI X tg (.Call (.Name "range" p) [a] [] pos) (adn ta):=by
 intro pins s σ H R I h
 refine Call_ (Hs I hg hm boot_range (PyProof.Rows.callWith_type1 (dO (ha pos pins s σ H _ I h) fun us s1 ⟨vs,H1,I1,r1,q1⟩=>?_) hs rfl))
 obtain⟨j,e,q1,q2,q⟩:=q1
 subst e
 cases r1 with
 | cons r rr =>
   cases rr
   obtain⟨t,rfl⟩:=r
   exact call_range_1 (Rv I1 (by omega) (by omega) q1 q2 (by simpa using q))
def apg (wi:TI) (g:TG) (tb:TS):TS:=fun D σ H=>wi σ H fun J H1=>∃ W:Nat→Nat→St→Hp→Prop,(∃ m,W 0 m σ H1)∧∀ i m σ H,W i m σ H →
 (J.stop i H∧D.nx σ H)∨(J.go i H∧∃ N:St→Hp→Prop,(∀ σ' H',N σ' H'→∃ m',m'<m∧W (i+1) m' σ' H')∧∀ x H',J.Ml i H x H'→g x σ H' fun σ2 H2=>tb { D with nx:=N,ct:=N,bk:=D.nx } σ2 H2)
def o8 (fp:List Addr) (h:Heap):List (Addr × Obj):=fp.filterMap fun b=>(h.get? b).map fun o=>(b,o)
theorem yP {fp:List Addr}{h:Heap}{b:Addr}{o:Obj} (hb:b∈fp) (e:h.get? b=some o):(b,o)∈o8 fp h:=List.mem_filterMap.mpr ⟨b,hb,by rw [e];rfl⟩
theorem Qs {fp:List Addr}{h:Heap}{p:Addr × Obj} (hp:p∈o8 fp h):p.1∈fp∧h.get? p.1=some p.2:=by
 obtain⟨b,hb,e⟩:=List.mem_filterMap.mp hp
 cases q:h.get? b with
 | none=>rw [q] at e;cases e
 | some o =>
   rw [q] at e
   have e':(b,o)=p:=Option.some.inj e
   subst e'
   exact⟨hb,q⟩
theorem Inv.pinned {pins:List (Addr × Obj)}{σ:St}{H:Hp}{s:Shared}{fp:List Addr} (I:Inv X pins σ H s) (hf:∀ b∈fp,kZ X pins H b) (ho:∀ b∈fp,∃ o,s.heap.get? b=some o∧∀ v,o.data≠.cell v):Inv X (pins++o8 fp s.heap) σ H s :=
 I.gm fun p hp=>(List.mem_append.mp hp).elim (fun z=>I.pin p (List.mem_append_right _ z)) fun z=>by
   obtain⟨hb,e⟩:=Qs z
   obtain⟨f0,f1,f2,_⟩:=hf p.1 hb
   obtain⟨o,e',d⟩:=ho p.1 hb
   rw [e] at e';cases e'
   exact⟨e,f0,f1,f2,d⟩
theorem Inv.BL {pins pl:List (Addr × Obj)}{σ:St}{H:Hp}{s:Shared} (I:Inv X (pins++pl) σ H s):Inv X pins σ H s:=I.gm fun p hp=>I.pin p (List.mem_append_right _ (List.mem_append_left _ hp))
theorem ZK {iter:Expr}{body:List Stmt}{wi:TI}{g:TG}{tb:TS}{pos:Pos} (hp:PassesOwn (model X.prog X.w) X.A X.env X.xe) (hc:X.calm=true) (hi:PI X tg iter wi) (hg:PG X tg g) (hb:o6 X body tb)
   (hs:∀ x,foldedSetIterable iter X.env x=pure x:=by intro _;rfl):PS X (.For tg iter body [] pos) (apg wi g tb):=by
 intro pins s σ H D I h
 refine wpAny_For (dO (hi pins s σ H _ I h) fun v s1 h1=>dO h1 fun itv s2 h2=>?_) hs
 obtain⟨it,fp,tn,J,H2,e,I2,T,st2,f2,W,⟨m0,w0⟩,turn⟩:=h2
 subst e
 have stat:∀ {H':Hp},(∀ b∈fp,H' b=none)→∀ b∈fp,kZ X pins H' b:=fun hn b hb=>⟨hn b hb,(f2 b hb).2⟩
 refine codeAny_forLoop_any (fun n s'=>∃ i σ' H',Inv X pins σ' H' s'∧tn i s'.heap∧(∀ b∈fp,H' b=none)∧W i n σ' H') ?_ m0 ⟨0,σ,H2,I2,st2,fun b hb=>(f2 b hb).1,w0⟩
 rintro n s3 ⟨i,σ3,H3,I3,st3,fr3,w3⟩
 rcases turn i n σ3 H3 w3 with ⟨stop,qn⟩ | ⟨go,N,hN,step⟩
 · refine wpAny_passesOwn hp (dO (T.done X rfl rfl rfl hc i pins s3 σ3 H3 X.xe I3 (stat fr3) st3 stop) fun r s4 zq=>?_)
   obtain⟨hr,I4⟩:=zq
   subst hr
   exact wpAny_execs_nil ⟨σ3,H3,I4,qn⟩
 · refine wpAny_passesOwn hp (dO (T.item X rfl rfl rfl hc i pins s3 σ3 H3 X.xe I3 (stat fr3) st3 go) fun r s4 zq=>?_)
   obtain⟨u,hr,h4⟩:=zq
   subst hr
   refine wpAny_passesOwn hp (dO h4 fun _ s5 zq=>?_)
   obtain⟨x,H5,I5,r5,y5,Hu,ZL⟩:=zq
   have ZM:=I5.pinned (stat ZL) (T.obj _ _ Hu)
   refine wpAny_passesOwn hp (dO (hg _ s5 σ3 H5 x u _ ZM r5 (step x H5 y5)) fun _ s6 zq=>?_)
   obtain⟨σ6,H6,I6,q6⟩:=zq
   refine wpAny_passesOwn hp (dO (hb _ s6 σ6 H6 _ I6 q6) fun f s7 q7=>?_)
   have again:∀ {σ7:St}{H7:Hp},Inv X (pins++o8 fp s5.heap) σ7 H7 s7→N σ7 H7→∃ m,m<n∧∃ i σ' H',Inv X pins σ' H' s7∧tn i s7.heap∧(∀ b∈fp,H' b=none)∧W i m σ' H':=fun {σ7 H7} I7 n7=>by
     obtain⟨m',hm,w7⟩:=hN σ7 H7 n7
     refine⟨m',hm,i+1,σ7,H7,I7.BL,T.keep _ _ _ Hu fun b hb o e=>(I7.pin (b,o) (List.mem_append_right _ (List.mem_append_right _ (yP hb e)))).1,fun b hb=>?_,w7⟩
     obtain⟨o,e,d⟩:=T.obj _ _ Hu b hb
     exact (I7.pin (b,o) (List.mem_append_right _ (List.mem_append_right _ (yP hb e)))).2.1
   cases f with
   | next=>obtain⟨σ7,H7,I7,n7⟩:=q7;exact again I7 n7
   | cont=>obtain⟨σ7,H7,I7,n7⟩:=q7;exact again I7 n7
   | brk=>obtain⟨σ7,H7,I7,q7⟩:=q7;exact⟨σ7,H7,I7.BL,q7⟩
   | ret v=>obtain⟨x7,σ7,H7,I7,r7,q7⟩:=q7;exact⟨x7,σ7,H7,I7.BL,r7,q7⟩
end
theorem Rx {K:PySem.W.Frag}{a:Addr}{xs:List V}{g:TG}{tb:TS}{D:Ends}{σ:St}{H:Hp} (Pv:Nat→St→Hp→Prop) (h0:Pv 0 σ H) (hl:∀ i σ H,i≤xs.length→Pv i σ H→cB K H a xs)
   (hs:∀ i x σ H,xs[i]? = some x→Pv i σ H→g x σ H fun σ2 H2=>tb { D with nx:=Pv (i+1),ct:=Pv (i+1),bk:=D.nx } σ2 H2) (hd:∀ σ H,Pv xs.length σ H→D.nx σ H) :
   ∃ W:Nat→Nat→St→Hp→Prop,(∃ m,W 0 m σ H)∧∀ i m σ H,W i m σ H →
     ((Yq K a).stop i H∧D.nx σ H)∨((Yq K a).go i H∧∃ N:St→Hp→Prop,(∀ σ' H',N σ' H'→∃ m',m'<m∧W (i+1) m' σ' H')∧∀ x H',(Yq K a).Ml i H x H'→g x σ H' fun σ2 H2=>tb { D with nx:=N,ct:=N,bk:=D.nx } σ2 H2):=by
 refine⟨fun i m σ H=>m=xs.length - i∧i≤xs.length∧Pv i σ H,⟨xs.length,by simp,Nat.zero_le _,h0⟩,?_⟩
 rintro i m σ H ⟨rfl,hi,p⟩
 have q:=hl i σ H hi p
 by_cases hlt:i<xs.length
 · refine .inr ⟨⟨xs,xs[i],q,by simp [hlt]⟩,Pv (i+1),fun σ' H' p'=>⟨xs.length - (i+1),by omega,rfl,hlt,p'⟩,fun x H' y=>?_⟩
   obtain⟨e,y⟩:=y
   subst e
   exact hs i x σ _ (y xs q) p
 · have e:i=xs.length:=by omega
   subst e
   exact .inl ⟨⟨xs,q,Nat.le_refl _⟩,hd σ H p⟩
theorem Qt {lo:Int}{n:Nat}{g:TG}{tb:TS}{D:Ends}{σ:St}{H:Hp} (Pv:Nat→St→Hp→Prop) (h0:Pv 0 σ H)
   (hs:∀ i σ H,i<n→Pv i σ H→g (.int (lo+i)) σ H fun σ2 H2=>tb { D with nx:=Pv (i+1),ct:=Pv (i+1),bk:=D.nx } σ2 H2) (hd:∀ σ H,Pv n σ H→D.nx σ H) :
   ∃ W:Nat→Nat→St→Hp→Prop,(∃ m,W 0 m σ H)∧∀ i m σ H,W i m σ H →
     ((ZG lo n).stop i H∧D.nx σ H)∨((ZG lo n).go i H∧∃ N:St→Hp→Prop,(∀ σ' H',N σ' H'→∃ m',m'<m∧W (i+1) m' σ' H')∧∀ x H',(ZG lo n).Ml i H x H'→g x σ H' fun σ2 H2=>tb { D with nx:=N,ct:=N,bk:=D.nx } σ2 H2):=by
 refine⟨fun i m σ H=>m=n - i∧i≤n∧Pv i σ H,⟨n,by simp,Nat.zero_le _,h0⟩,?_⟩
 rintro i m σ H ⟨rfl,hi,p⟩
 by_cases hlt:i<n
 · refine .inr ⟨hlt,Pv (i+1),fun σ' H' p'=>⟨n - (i+1),by omega,rfl,hlt,p'⟩,fun x H' y=>?_⟩
   obtain⟨e,y⟩:=y
   subst e y
   exact hs i σ _ hlt p
 · have e:i=n:=by omega
   subst e
   exact .inl ⟨Nat.le_refl _,hd σ H p⟩
end L2
namespace L2
open PySem PySem.Spec PyProof.Rows
abbrev R2:=V→V→Hp→VK→Prop
def jc (X:Cx) (f:Value→Value→Sem Value) (r:R2):Prop :=
 ∀ (pins:List (Addr × Obj)) (s:Shared) (σ:St) (H:Hp) (x y:V) (v u:Value) (Q:VK),Inv X pins σ H s→RelV x v→RelV y u→r x y H Q →
   wpAny (model X.prog X.w) X.A (f v u) (EP X pins σ Q) X.xe s
def Fe (X:Cx) (f:Value→Sem Value) (r:V→Hp→VK→Prop):Prop :=
 ∀ (pins:List (Addr × Obj)) (s:Shared) (σ:St) (H:Hp) (x:V) (v:Value) (Q:VK),Inv X pins σ H s→RelV x v→r x H Q →
   wpAny (model X.prog X.w) X.A (f v) (EP X pins σ Q) X.xe s
def cQ (X:Cx) (f:Value) (r:List V→Hp→VK→Prop):Prop :=
 ∀ (pins:List (Addr × Obj)) (s:Shared) (σ:St) (H:Hp) (xs:List V) (us:List Value) (Q:VK),Inv X pins σ H s→Vals xs us→r xs H Q →
   wpAny (model X.prog X.w) X.A (call f us) (EP X pins σ Q) X.xe s
def mZ (X:Cx) (r:V→Hp→(Bool→Hp→Prop)→Prop):Prop :=
 ∀ (pins:List (Addr × Obj)) (s:Shared) (σ:St) (H:Hp) (x:V) (v:Value) (Q:Bool→Hp→Prop),Inv X pins σ H s→RelV x v→r x H Q →
   wpAny (model X.prog X.w) X.A (truthy v) (TP X pins σ Q) X.xe s
def Mq (r:R2) (ta tb:TE):TE:=fun σ H Q=>ta σ H fun x H1=>tb σ H1 fun y H2=>r x y H2 Q
def rI (C:Int→Int→Prop) (g:Int→Int→V):R2:=fun x y H Q=>∃ i j,x=.int i∧y=.int j∧C i j∧Q (g i j) H
def O6 (g:Int→Int→V):R2:=fun x y H Q=>∃ i j,x=.int i∧y=.int j∧Q (g i j) H
section
variable {X:Cx}{a b c:Expr}{ta tb tc:TE}{pos:Pos}
theorem ZP (ha:PE X a ta) (hb:PE X b tb) {pins:List (Addr × Obj)}{s:Shared}{σ:St}{H:Hp}{R:V→V→Hp→Prop} (I:Inv X pins σ H s)
   (h:ta σ H fun x H1=>tb σ H1 fun y H2=>R x y H2) {Q:Value→Shared→Prop}{f:Value→Value→Sem Value}
   (hf:∀ v u s2 x y H2,Inv X pins σ H2 s2→RelV x v→RelV y u→R x y H2→wpAny (model X.prog X.w) X.A (f v u) Q X.xe s2) :
   wpAny (model X.prog X.w) X.A (eval a X.env) (fun v s₁=>wpAny (model X.prog X.w) X.A (eval b X.env) (fun u s₂=>wpAny (model X.prog X.w) X.A (f v u) Q X.xe s₂) X.xe s₁) X.xe s:=by
 refine dO (ha pins s σ H _ I h) fun v s1 zq=>?_
 obtain⟨x,H1,I1,r1,q1⟩:=zq
 refine dO (hb pins s1 σ H1 _ I1 q1) fun u s2 zq=>?_
 obtain⟨y,H2,I2,r2,q2⟩:=zq
 exact hf v u s2 x y H2 I2 r1 r2 q2
theorem zU {op:Operator}{r:R2} (ho:jc X (binaryOp op) r) (ha:PE X a ta) (hb:PE X b tb):PE X (.BinOp a op b pos) (Mq r ta tb):=by
 intro pins s σ H Q I h
 exact wpAny_BinOp (ZP ha hb I h fun v u s2 x y H2 I2 rx ry q=>ho pins s2 σ H2 x y v u Q I2 rx ry q)
theorem opI {f:Value→Value→Sem Value}{C:Int→Int→Prop}{g:Int→Int→Int}
   (rule:∀ (i j:Int) (t u:Tok) (s:Shared) (Q:Value→Shared→Prop) (E:Value→Shared→Prop),C i j→Q (.int (g i j) s.toks) { s with toks:=s.toks+1 }→wpAny (model X.prog X.w) X.A (f (.int i t) (.int j u)) Q E s) :
   jc X f (rI C fun i j=>.int (g i j)):=by
 intro pins s σ H x y v u Q I rx ry h
 obtain⟨i,j,rfl,rfl,hc,q⟩:=h
 obtain⟨t,rfl⟩:=rx
 obtain⟨t',rfl⟩:=ry
 exact rule i j t t' s _ _ hc ⟨.int (g i j),H,I.tok _,⟨_,rfl⟩,q⟩
theorem ado {f:Value→Value→Sem Value}{g:Int→Int→Int}
   (rule:∀ (i j:Int) (t u:Tok) (s:Shared) (Q:Value→Shared→Prop) (E:Value→Shared→Prop),Q (.int (g i j) s.toks) { s with toks:=s.toks+1 }→wpAny (model X.prog X.w) X.A (f (.int i t) (.int j u)) Q E s) :
   jc X f (O6 fun i j=>.int (g i j)):=by
 intro pins s σ H x y v u Q I rx ry h
 obtain⟨i,j,rfl,rfl,q⟩:=h
 obtain⟨t,rfl⟩:=rx
 obtain⟨t',rfl⟩:=ry
 exact rule i j t t' s _ _ ⟨.int (g i j),H,I.tok _,⟨_,rfl⟩,q⟩
theorem Wk {f:Value→Value→Sem Value}{g:Int→Int→Bool}
   (rule:∀ (i j:Int) (t u:Tok) (s:Shared) (Q:Value→Shared→Prop) (E:Value→Shared→Prop),Q (.bool (g i j)) s→wpAny (model X.prog X.w) X.A (f (.int i t) (.int j u)) Q E s) :
   jc X f (O6 fun i j=>.bl (g i j)):=by
 intro pins s σ H x y v u Q I rx ry h
 obtain⟨i,j,rfl,rfl,q⟩:=h
 obtain⟨t,rfl⟩:=rx
 obtain⟨t',rfl⟩:=ry
 exact rule i j t t' s _ _ ⟨.bl (g i j),H,I,rfl,q⟩
def aph (i j:Int):Prop:=0<j∧j<1073741824
def api (i j:Int):Prop:=0≤j∧j≤1000000∧i.natAbs<2 ^ 64
def adp (i j:Int):Prop:=(-(2 ^ 64)<i∧i<2 ^ 64)∨(-(2 ^ 64)<j∧j<2 ^ 64)
theorem adp.ok {i j:Int} (h:adp i j):IntMulOk i j:=by
 rcases h with ⟨h1,h2⟩ | ⟨h1,h2⟩
 · exact .of_left (intBits_le_64 h1 h2)
 · exact .of_right (intBits_le_64 h1 h2)
theorem yU:jc X (binaryOp .Add) (O6 fun i j=>.int (i+j)):=ado fun _ _ _ _ _ _ _ q=>add_int q
theorem o9:jc X (binaryOp .Sub) (O6 fun i j=>.int (i - j)):=ado fun _ _ _ _ _ _ _ q=>sub_int q
theorem jC:jc X (binaryOp .FloorDiv) (rI aph fun i j=>.int (i / j)):=opI fun i j _ _ _ _ _ hc q=>by
 have h1:(0:Int)<j:=hc.1
 have h2:j<1073741824:=hc.2
 exact floordiv_int (by omega) (by rw [Int.fdiv_eq_ediv_of_nonneg i (by omega)];exact q) (.inl (PyProof.noPylong_small (by omega)))
theorem yT:jc X (binaryOp .Mod) (rI (fun _ j=>0<j) fun i j=>.int (i % j)):=opI fun i j _ _ _ _ _ hc q=>by
 have h1:(0:Int)<j:=hc
 exact mod_int' (by omega) (by rw [Int.fmod_eq_emod_of_nonneg i (by omega)];exact q)
theorem BP:jc X (binaryOp .Pow) (rI api fun i j=>.int (i ^ j.toNat)):=opI fun _ _ _ _ _ _ _ hc q=>pow_int_small hc.1 hc.2.1 hc.2.2 q
end
def adq:V→V→Bool
 | .non,.non=>true | .non,.int _=>true | .int _,.non=>true | .non,.bl _=>true | .bl _,.non=>true | .non,.str _=>true | .str _,.non=>true
 | .int _,.int _=>true | .bl _,.bl _=>true | .str _,.str _=>true | .O5 _,.O5 _=>true
 | .int _,.str _=>true | .str _,.int _=>true | .bl _,.str _=>true | .str _,.bl _=>true
 | _,_=>false
def rEq:R2:=fun x y H Q=>adq x y=true∧Q (.bl (decide (x=y))) H
def rNe:R2:=fun x y H Q=>adq x y=true∧Q (.bl (!decide (x=y))) H
theorem Br {i j:Int}:decide (V.int i=V.int j)=(i == j):=by
 rw [Bool.eq_iff_iff]
 simp
theorem Ry {i j:Bool}:decide (V.bl i=V.bl j)=(i == j):=by
 rw [Bool.eq_iff_iff]
 simp
theorem O7 {i j:Str}:decide (V.str i=V.str j)=(i == j):=by
 rw [Bool.eq_iff_iff]
 simp
theorem O8 {i j:Array UInt8}:decide (V.O5 i=V.O5 j)=(i.toList == j.toList):=by
 rw [Bool.eq_iff_iff]
 cases i
 cases j
 simp
section
variable {X:Cx}{a b c:Expr}{ta tb tc:TE}{pos:Pos}
theorem yH {pins:List (Addr × Obj)}{σ:St}{H:Hp}{s:Shared}{Q:VK}{k k':Bool} (I:Inv X pins σ H s) (q:Q (.bl k) H) (e:k=k'):EP X pins σ Q (.bool k') s:=by
 subst e
 exact⟨.bl k,H,I,rfl,q⟩
theorem yS:jc X (compareOp .Eq) rEq:=by
 intro pins s σ H x y v u Q I rx ry h
 obtain⟨hs,q⟩:=h
 cases x with
 | non =>
   cases rx
   cases y with
   | non=>cases ry;exact PySem.EqNone.eq_none_none (yH I q (by simp))
   | bl j=>cases ry;exact PySem.EqNone.eq_none_bool (yH I q (by simp))
   | int j=>obtain⟨t',rfl⟩:=ry;exact PySem.EqNone.eq_none_int (yH I q (by simp))
   | str j=>obtain⟨t',rfl⟩:=ry;exact PySem.EqNone.eq_none_str (yH I q (by simp))
   | _=>exact absurd (show false=true from hs) Bool.false_ne_true
 | bl i =>
   cases rx
   cases y with
   | non=>cases ry;exact PySem.EqNone.eq_bool_none (yH I q (by simp))
   | bl j=>cases ry;exact eq_bool (yH I q Ry)
   | str j=>obtain⟨t',rfl⟩:=ry;exact PySem.EqMixed.eq_bool_str (yH I q (by simp))
   | _=>exact absurd (show false=true from hs) Bool.false_ne_true
 | int i =>
   obtain⟨t,rfl⟩:=rx
   cases y with
   | non=>cases ry;exact PySem.EqNone.eq_int_none (yH I q (by simp))
   | int j=>obtain⟨t',rfl⟩:=ry;exact eq_int (yH I q Br)
   | str j=>obtain⟨t',rfl⟩:=ry;exact PySem.EqMixed.eq_int_str (yH I q (by simp))
   | _=>exact absurd (show false=true from hs) Bool.false_ne_true
 | str i =>
   obtain⟨t,rfl⟩:=rx
   cases y with
   | non=>cases ry;exact PySem.EqNone.eq_str_none (yH I q (by simp))
   | bl j=>cases ry;exact PySem.EqMixed.eq_str_bool (yH I q (by simp))
   | int j=>obtain⟨t',rfl⟩:=ry;exact PySem.EqMixed.eq_str_int (yH I q (by simp))
   | str j=>obtain⟨t',rfl⟩:=ry;exact eq_str (yH I q O7)
   | _=>exact absurd (show false=true from hs) Bool.false_ne_true
 | O5 i =>
   obtain⟨t,rfl⟩:=rx
   cases y with
   | O5 j=>obtain⟨t',rfl⟩:=ry;exact PySem.W.eq_bytes (yH I q O8)
   | _=>exact absurd (show false=true from hs) Bool.false_ne_true
 | _=>cases y <;> exact absurd (show false=true from hs) Bool.false_ne_true
theorem Rz:jc X (compareOp .NotEq) rNe:=by
 intro pins s σ H x y v u Q I rx ry h
 obtain⟨hs,q⟩:=h
 cases x with
 | non =>
   cases rx
   cases y with
   | non=>cases ry;exact PySem.EqNone.ne_none_none (yH I q (by simp))
   | bl j=>cases ry;exact PySem.EqNone.ne_none_bool (yH I q (by simp))
   | int j=>obtain⟨t',rfl⟩:=ry;exact PySem.EqNone.ne_none_int (yH I q (by simp))
   | str j=>obtain⟨t',rfl⟩:=ry;exact PySem.EqNone.ne_none_str (yH I q (by simp))
   | _=>exact absurd (show false=true from hs) Bool.false_ne_true
 | bl i =>
   cases rx
   cases y with
   | non=>cases ry;exact PySem.EqNone.ne_bool_none (yH I q (by simp))
   | bl j=>cases ry;exact ne_bool (yH I q (congrArg not Ry))
   | str j=>obtain⟨t',rfl⟩:=ry;exact PySem.EqMixed.ne_bool_str (yH I q (by simp))
   | _=>exact absurd (show false=true from hs) Bool.false_ne_true
 | int i =>
   obtain⟨t,rfl⟩:=rx
   cases y with
   | non=>cases ry;exact PySem.EqNone.ne_int_none (yH I q (by simp))
   | int j=>obtain⟨t',rfl⟩:=ry;exact ne_int (yH I q (congrArg not Br))
   | str j=>obtain⟨t',rfl⟩:=ry;exact PySem.EqMixed.ne_int_str (yH I q (by simp))
   | _=>exact absurd (show false=true from hs) Bool.false_ne_true
 | str i =>
   obtain⟨t,rfl⟩:=rx
   cases y with
   | non=>cases ry;exact PySem.EqNone.ne_str_none (yH I q (by simp))
   | bl j=>cases ry;exact PySem.EqMixed.ne_str_bool (yH I q (by simp))
   | int j=>obtain⟨t',rfl⟩:=ry;exact PySem.EqMixed.ne_str_int (yH I q (by simp))
   | str j=>obtain⟨t',rfl⟩:=ry;exact ne_str (yH I q (congrArg not O7))
   | _=>exact absurd (show false=true from hs) Bool.false_ne_true
 | O5 i =>
   obtain⟨t,rfl⟩:=rx
   cases y with
   | O5 j=>obtain⟨t',rfl⟩:=ry;exact PySem.W.ne_bytes (yH I q (congrArg not O8))
   | _=>exact absurd (show false=true from hs) Bool.false_ne_true
 | _=>cases y <;> exact absurd (show false=true from hs) Bool.false_ne_true
theorem m5:jc X (compareOp .Lt) (O6 fun i j=>.bl (decide (i<j))):=Wk fun _ _ _ _ _ _ _ q=>lt_int q
theorem adt:jc X (compareOp .LtE) (O6 fun i j=>.bl (decide (i≤j))):=Wk fun _ _ _ _ _ _ _ q=>le_int q
theorem O9:jc X (compareOp .Gt) (O6 fun i j=>.bl (decide (j<i))):=Wk fun _ _ _ _ _ _ _ q=>gt_int q
theorem adu:jc X (compareOp .GtE) (O6 fun i j=>.bl (decide (j≤i))):=Wk fun _ _ _ _ _ _ _ q=>ge_int q
theorem xO:jc X (compareOp .Is) (fun x y H Q=>y=.non∧Q (.bl (decide (x=.non))) H):=by
 intro pins s σ H x y v u Q I rx ry h
 obtain⟨rfl,q⟩:=h
 cases ry
 refine is_none_gen (yH I q ?_)
 cases x <;> first
   | (cases rx;rfl)
   | (obtain⟨t,rfl⟩:=rx;rfl)
theorem vm:jc X (compareOp .IsNot) (fun x y H Q=>y=.non∧Q (.bl (!decide (x=.non))) H):=by
 intro pins s σ H x y v u Q I rx ry h
 obtain⟨rfl,q⟩:=h
 cases ry
 refine isnot_none_gen (yH I q ?_)
 cases x <;> first
   | (cases rx;rfl)
   | (obtain⟨t,rfl⟩:=rx;rfl)
theorem jc.or {f:Value→Value→Sem Value}{r r':R2} (h:jc X f r) (h':jc X f r'):jc X f (fun x y H Q=>r x y H Q∨r' x y H Q):=by
 intro pins s σ H x y v u Q I rx ry q
 rcases q with q | q
 · exact h pins s σ H x y v u Q I rx ry q
 · exact h' pins s σ H x y v u Q I rx ry q
theorem zO (b:Expr) {op:CmpOp} (h:op≠.In:=by decide) (h2:op≠.NotIn:=by decide):behindInMarks op b=false:=by
 have e1:(op == CmpOp.In)=false:=by cases op <;> first | rfl | exact absurd rfl h
 have e2:(op == CmpOp.NotIn)=false:=by cases op <;> first | rfl | exact absurd rfl h2
 cases b <;> simp [behindInMarks,e1,e2]
theorem xG {op:CmpOp}{r:R2} (ho:jc X (compareOp op) r) (ha:PE X a ta) (hb:PE X b tb) (hm:behindInMarks op b=false):PE X (.Compare a [op] [b] pos) (Mq r ta tb):=by
 intro pins s σ H Q I h
 exact wpAny_Compare1 (ZP ha hb I h fun v u s2 x y H2 I2 rx ry q=>ho pins s2 σ H2 x y v u Q I2 rx ry q) hm
def qb (t:TE):TT:=fun σ H Q=>t σ H fun x H'=>∃ k,x=.bl k∧Q k H'
theorem zL {op:CmpOp}{r:R2} (ho:jc X (compareOp op) r) (ha:PE X a ta) (hb:PE X b tb) (hm:behindInMarks op b=false):PT X (.Compare a [op] [b] pos) (qb (Mq r ta tb)):=by
 intro pins s σ H Q I h
 refine wpAny_isTrue_Compare1 (dO (ha pins s σ H _ I h) fun v s1 ⟨x,H1,I1,r1,q1⟩=>dO (hb pins s1 σ H1 _ I1 q1) fun u s2 ⟨y,H2,I2,r2,q2⟩ =>
   dO (ho pins s2 σ H2 x y v u _ I2 r1 r2 q2) fun c s3 ⟨z,H3,I3,r3,k,e,q3⟩=>?_) hm
 subst e
 cases r3
 exact wpAny_truthy_bool ⟨H3,I3,q3⟩
def ZQ (r r':R2) (ta tb tc:TE):TE:=fun σ H Q=>ta σ H fun x H1=>tb σ H1 fun y H2=>r x y H2 fun z H3=>∃ k,z=.bl k ∧
 (if k=true then tc σ H3 fun w' H4=>r' y w' H4 Q else Q (.bl false) H3)
theorem RB {op op':CmpOp}{r r':R2} (ho:jc X (compareOp op) r) (ho':jc X (compareOp op') r') (ha:PE X a ta) (hb:PE X b tb) (hc:PE X c tc)
   (hm:lastMarks [op,op'] [b,c]=false:=by with_unfolding_all rfl):PE X (.Compare a [op,op'] [b,c] pos) (ZQ r r' ta tb tc):=by
 intro pins s σ H Q I h
 refine Compare_chain (dO (ha pins s σ H _ I h) fun v s1 ⟨x,H1,I1,r1,q1⟩=>chain_link (dO (hb pins s1 σ H1 _ I1 q1) fun u s2 ⟨y,H2,I2,r2,q2⟩ =>
   dO (ho pins s2 σ H2 x y v u _ I2 r1 r2 q2) fun d s3 ⟨z,H3,I3,r3,k,e,q3⟩=>?_)) hm
 subst e
 cases r3
 refine wpAny_truthy_bool ?_
 cases k with
 | false=>exact ite_ff ⟨.bl false,H3,I3,rfl,q3⟩
 | true=>exact ite_tt (chain_last (dO (hc pins s3 σ H3 _ I3 q3) fun w' s4 ⟨z',H4,I4,r4,q4⟩=>ho' pins s4 σ H4 y z' u w' Q I4 r2 r4 q4))
theorem BR:(sizeLine:Nat)<2 ^ 63:=by rw [sizeLine_eq];decide
theorem tZ:jc X (binaryOp .Add) (fun x y H Q=>∃ i j,x=.str i∧y=.str j∧i.length+j.length≤sizeLine∧Q (.str (i++j)) H):=by
 intro pins s σ H x y v u Q I rx ry h
 obtain⟨i,j,rfl,rfl,hz,q⟩:=h
 obtain⟨t,rfl⟩:=rx
 obtain⟨t',rfl⟩:=ry
 exact add_str (fun t' tk=>⟨.str (i++j),H,I.tok _,⟨_,rfl⟩,q⟩) hz
theorem vals1 {x:V}{us:List Value} (r:Vals [x] us):∃ u,us=[u]∧RelV x u:=by
 cases r with
 | cons r1 r2=>cases r2;exact⟨_,rfl,r1⟩
theorem vals2 {x y:V}{us:List Value} (r:Vals [x,y] us):∃ u w',us=[u,w']∧RelV x u∧RelV y w':=by
 cases r with
 | cons r1 r2 =>
   cases r2 with
   | cons r3 r4=>cases r4;exact⟨_,_,rfl,r1,r3⟩
theorem Qu (hc:X.calm=true):cQ X (.builtin "min") (fun xs H Q=>∃ i j,xs=[.int i,.int j]∧Q (.int (if j<i then j else i)) H):=by
 intro pins s σ H xs us Q I r h
 obtain⟨i,j,rfl,q⟩:=h
 obtain⟨u,w',rfl,⟨t,rfl⟩,⟨t',rfl⟩⟩:=vals2 r
 refine min_two_ints (I.ok.hd hc) fun h' tk k=>⟨_,H,I.kept k,?_,q⟩
 by_cases hj:j<i
 · rw [if_pos hj,if_pos hj];exact⟨_,rfl⟩
 · rw [if_neg hj,if_neg hj];exact⟨_,rfl⟩
end
end L2
namespace L2
open PySem PySem.Spec PyProof.Rows
structure Mr (h:Heap) (x dx C:Addr) (mA:Str→Option Value):Prop where
 obj:h.get? x=some (PySem.W.instObj C dx)
 ns:h.Ns1 dx mA
 ne:dx≠x
theorem Qv {h:Heap}{dx:Addr}{mA:Str→Option Value} (n:h.Ns1 dx mA):∃ od,h.get? dx=some od∧∀ name,PySem.W.lookIn name od=some (mA name):=by
 obtain⟨o,es,ep,ho,hd,hk,_,hm⟩:=n
 refine⟨o,ho,fun name=>?_⟩
 have e:=hm name
 unfold nsFind findBy at e
 rw [← Array.find?_toList] at e
 unfold PySem.W.lookIn
 rw [hd]
 dsimp only
 split
 · rename_i y q
   rw [q] at e
   exact congrArg some e
 · rename_i q
   rw [q] at e
   have a:es.toList.any (·.refKey)=false:=by
     rw [List.any_eq_false]
     intro y hy
     obtain⟨z,t,hkey⟩:=hk y (Array.mem_toList_iff.mp hy)
     simp [DictEntry.refKey,hkey]
   have a':¬ es.toList.any (·.refKey)=true:=by rw [a];exact Bool.false_ne_true
   rw [if_neg a']
   exact congrArg some e
theorem Mr.look {h:Heap}{x dx C:Addr}{mA:Str→Option Value} (I:Mr h x dx C mA):∃ od,PySem.W.InstAt h x (PySem.W.instObj C dx) C (some od)∧∀ name,PySem.W.lookIn name od=some (mA name) :=
 let ⟨od,ho,hl⟩:=Qv I.ns
 ⟨od,⟨I.obj,rfl,rfl,ho⟩,hl⟩
section
variable {prog:Program}{w:World}{A:Around}{E:Value→Shared→Prop}{s:Shared}{K:PySem.W.Frag}{x dx C f:Addr}{mA:Str→Option Value}{name:Str}{v:Value}
theorem get_map {expr:Bool}{Q:Value→Shared→Prop} (X:K.In s.heap) (I:Mr s.heap x dx C mA) (hg:PySem.W.plainGet K C name=true) (hh:PySem.W.hasDictIn K C=true)
   (ha:PySem.W.findIn K (.ref C) name=some none) (hv:mA name=some v) (hv':PySem.W.handedIn v=true) (h:Q v { s with toks:=s.toks+1 }) :
   wpAny (model prog w) A (getAttr (.ref x) name expr) Q E s:=by
 obtain⟨od,J,hl⟩:=I.look
 exact PySem.W.get_value X J (PySem.W.plainGet_of hg).1 (PySem.W.findObj_own hh ha rfl (by rw [hl,hv])) hv' h
theorem RC {pl:Sem Bool}{Q:Value × List Value→Shared→Prop} (X:K.In s.heap) (I:Mr s.heap x dx C mA) (hg:PySem.W.plainGet K C name=true)
   (hf:PySem.W.findIn K (.ref C) name=some (some (.ref f))) (ht:PySem.W.isFn K (.ref f)=true) (hv:mA name=none) (h:Q (.ref f,[.ref x]) s) :
   wpAny (model prog w) A (getMethod (.ref x) name pl) Q E s:=by
 obtain⟨od,J,hl⟩:=I.look
 exact PySem.W.method_fn X J (PySem.W.plainGet_of hg).1 (PySem.W.plainGet_of hg).2 hf (beq_iff_eq.mp ht) (by show (PySem.W.lookIn name od).map (·.isSome)=some false;rw [hl,hv];rfl) h
theorem Wl {ns:List Str}{Q:Unit→Shared→Prop} (X:K.In s.heap) (I:Mr s.heap x dx C mA)
   (hs:PySem.W.findIn K (.ref C) "__setattr__" = some (some (.builtin "object.__setattr__"))) (hp:PySem.W.plainOver K C=true) (ht:PySem.W.takerIn K C name=some none) (hh:PySem.W.hasDictIn K C=true)
   (hw:PySem.Within mA ns) (hsz:ns.length≤sizeLine)
   (h:∀ h',Mr h' x dx C (fun y=>if y=name then some v else mA y)→Heap.SameBut dx s.heap h'→Q () { s with heap:=h',toks:=s.toks+2 }) :
   wpAny (model prog w) A (setAttr (.ref x) name v) Q E s:=by
 obtain⟨od,J,hl⟩:=I.look
 refine PySem.W.set_plain X J hs (PySem.W.osa_open (s:={ s with toks:=s.toks+1 }) (r:=none) X J hp ht fun b=>?_)
 obtain⟨cd,hc,hd'⟩:=PySem.W.any_some hh
 have hx:s.heap.get? x=some ⟨.ref C,some dx,.plain,#[]⟩:=I.obj
 refine wpAny_bind (wpAny_pure (wpAny_bind (wpAny_bind (wpAny_loadPart hx (wpAny_bind (PySem.W.Looks.here (s:={ s with toks:=s.toks+1 }) (PySem.W.looks_clsIn X hc) ?_))))))
 rw [hd']
 refine wpAny_pure (a:=some dx) (wpAny_bind (wpAny_pure (wpAny_bind ?_)))
 refine wpAny_nsSet1 (s:={ s with toks:=s.toks+1 }) I.ns fun h' hn2 hs2=>?_
 obtain⟨oD,esD,epD,hoD,hdD,hcD⟩:=hn2.count (PySem.Within.cons name v hw)
 refine wpAny_bind (wpAny_lookBehind hoD (by rw [hdD];exact pastItsLine_dict (Nat.le_trans hcD (by rw [List.length_cons];omega))) ?_)
 exact wpAny_pure (h _ ⟨(hs2.2 _ (Ne.symm I.ne)).trans I.obj,hn2,I.ne⟩ hs2)
theorem RD {R:Result→Shared→Prop}{vs:List Value}{kw:List (Str × Value)} (X:K.In s.heap) (hm:PySem.W.makesIn K C=true)
   (hi:PySem.W.findIn K (.ref C) "__init__" = some (some (.ref f))) (hf:PySem.W.typeIn K (.ref f)=some (.type "function"))
   (h:codeAny (model prog w) (A.under (.builtin "type.__call__" ⟨.ref C::vs,kw⟩)) (.call (.ref f) ⟨.ref (s.heap.objs.size+1)::vs,kw⟩) (PySem.W.InitBack (s.heap.objs.size+1) R)
     { s with heap:=(s.heap.push PySem.W.emptyDict).push (PySem.W.instObj C s.heap.objs.size) }) :
   codeAny (model prog w) A (.call (.ref C) ⟨vs,kw⟩) R s:=by
 obtain⟨hh,g,d,t,os⟩:=s
 exact PySem.W.make_core (PySem.W.makes_of X hm) (PySem.W.looks_findIn X hi) (fun self=>PySem.W.bind_fn X self hf) (.inl rfl) h
end
def ph (f:Str) (v:V):List (Str × V)→List (Str × V)
 | []=>[(f,v)]
 | (g,x)::r=>if g=f then (g,v)::r else (g,x)::ph f v r
theorem zb (f g:Str) (v:V):∀ fs:List (Str × V),(ph f v fs).lookup g=if g=f then some v else fs.lookup g
 | []=>by
   show List.lookup g [(f,v)]=_
   by_cases h:g=f
   · have hb:(g == f)=true:=beq_iff_eq.mpr h
     simp only [List.lookup,hb,if_pos h]
   · have hb:(g == f)=false:=beq_eq_false_iff_ne.mpr h
     simp only [List.lookup,hb,if_neg h]
 | (k,x)::r=>by
   have ih:=zb f g v r
   rw [show ph f v ((k,x)::r)=(if k=f then (k,v)::r else (k,x)::ph f v r) from rfl]
   by_cases hk:k=f
   · rw [if_pos hk]
     by_cases h:g=k
     · have hb:(g == k)=true:=beq_iff_eq.mpr h
       simp only [List.lookup,hb,if_pos (h.trans hk)]
     · have hb:(g == k)=false:=beq_eq_false_iff_ne.mpr h
       simp only [List.lookup,hb,if_neg (fun e:g=f=>h (e.trans hk.symm))]
   · rw [if_neg hk]
     by_cases h:g=k
     · have hb:(g == k)=true:=beq_iff_eq.mpr h
       simp only [List.lookup,hb,if_neg (fun e:g=f=>hk (h.symm.trans e))]
     · have hb:(g == k)=false:=beq_eq_false_iff_ne.mpr h
       simp only [List.lookup,hb]
       exact ih
theorem wV (f:Str) (v:V):∀ fs:List (Str × V),f∈(ph f v fs).map (·.1)∧∀ g,g∈fs.map (·.1)→g∈(ph f v fs).map (·.1)
 | []=>⟨by simp [ph],fun g h=>by simp at h⟩
 | (k,x)::r=>by
   obtain⟨i1,i2⟩:=wV f v r
   rw [show ph f v ((k,x)::r)=(if k=f then (k,v)::r else (k,x)::ph f v r) from rfl]
   by_cases hk:k=f
   · rw [if_pos hk]
     subst hk
     exact⟨by simp,fun g h=>by simpa using h⟩
   · rw [if_neg hk]
     refine⟨?_,fun g h=>?_⟩
     · rw [List.map_cons]
       exact List.mem_cons_of_mem _ i1
     · rw [List.map_cons] at h ⊢
       rcases List.mem_cons.mp h with e | e
       · exact List.mem_cons.mpr (.inl e)
       · exact List.mem_cons_of_mem _ (i2 g e)
theorem zc (f:Str) (v:V):∀ fs:List (Str × V),(ph f v fs).length≤fs.length+1
 | []=>by simp [ph]
 | (k,x)::r=>by
   have ih:=zc f v r
   rw [show ph f v ((k,x)::r)=(if k=f then (k,v)::r else (k,x)::ph f v r) from rfl]
   by_cases hk:k=f
   · rw [if_pos hk,List.length_cons,List.length_cons];omega
   · rw [if_neg hk,List.length_cons,List.length_cons];omega
theorem qp.some_of {v:V}{o:Option Value} (r:qp (some v) o):∃ u,o=some u∧RelV v u:=by
 cases o with
 | none=>exact (show False from r).elim
 | some u=>exact⟨u,rfl,r⟩
theorem qp.none_of {o:Option Value} (r:qp none o):o=none:=by
 cases o with
 | none=>rfl
 | some u=>exact (show False from r).elim
theorem Qw {v:V}{u:Value} (r:RelV v u):PySem.W.handedIn u=true:=by
 cases v with
 | non=>cases (show u=Value.none from r);rfl
 | bl b=>cases (show u=Value.bool b from r);rfl
 | int i=>obtain⟨t,e⟩:=(show ∃ t,u=Value.int i t from r);cases e;rfl
 | str x=>obtain⟨t,e⟩:=(show ∃ t,u=Value.str x t from r);cases e;rfl
 | O5 b=>obtain⟨t,e⟩:=(show ∃ t,u=Value.bytes b t from r);cases e;rfl
 | flt b=>obtain⟨t,e⟩:=(show ∃ t,u=Value.float b t from r);cases e;rfl
 | ref a=>cases (show u=Value.ref a from r);rfl
 | ty n=>cases (show u=Value.type n from r);rfl
section
variable {P:Program}{w:World}{H H':Hp}{h h':Heap}{a C dx:Addr}{fs fs':List (Str × V)}
theorem Bs (hok:rT P w H h) (e:H a=some (.ins C dx fs)):∃ mA,Mr h a dx C mA∧(∀ f,qp (fs.lookup f) (mA f))∧PySem.Within mA (fs.map (·.1))∧fs.length≤1000∧H dx=some (.own a):=by
 obtain⟨d,z,ne,ob,mA,n,r,q⟩:=(show cD P w H h a (.ins C dx fs) from hok a _ e)
 exact⟨mA,⟨ob,n,ne⟩,r,q,z,d⟩
end
structure Ak (K:PySem.W.Frag) (C:Addr):Prop where
 pg:PySem.W.plainGet K C Str.empty=true
 hd:PySem.W.hasDictIn K C=true
 po:PySem.W.plainOver K C=true
 sa:PySem.W.findIn K (.ref C) "__setattr__" = some (some (.builtin "object.__setattr__"))
theorem Ak.get {K:PySem.W.Frag}{C:Addr} (c:Ak K C) (f:Str):PySem.W.plainGet K C f=true:=c.pg
def aJ (K:PySem.W.Frag) (C:Addr) (f:Str):Prop:=PySem.W.findIn K (.ref C) f=some none
theorem aJ.taker {K:PySem.W.Frag}{C:Addr}{f:Str} (n:aJ K C f):PySem.W.takerIn K C f=some none:=by
 unfold PySem.W.takerIn
 rw [show PySem.W.findIn K (.ref C) f=some none from n]
 rfl
structure Con (K:PySem.W.Frag) (C:Addr) (f:Str) (v:V) (u:Value):Prop where
 at_:PySem.W.findIn K (.ref C) f=some (some u)
 rel:RelV v u
 get:PySem.W.specialIn K u "__get__" = some none
 cp:PySem.W.copiedNames.contains f=false
structure Meth (K:PySem.W.Frag) (C:Addr) (m:Str) (f:Addr):Prop where
 at_:PySem.W.findIn K (.ref C) m=some (some (.ref f))
 fn:PySem.W.isFn K (.ref f)=true
 kp:PySem.W.keepIn K (.ref f)=true
section
variable {X:Cx}{pins:List (Addr × Obj)}{σ:St}{H:Hp}{s:Shared}{a C dx:Addr}{fs:List (Str × V)}{f:Str}{v:V}{A:Around}{E:Value→Shared→Prop}
theorem Ms {b:Bool}{Q:Value→Shared→Prop} (I:Inv X pins σ H s) (e:H a=some (.ins C dx fs)) (c:Ak X.K C) (n:aJ X.K C f) (l:fs.lookup f=some v)
   (h:∀ u s',Inv X pins σ H s'→RelV v u→Q u s'):wpAny (model X.prog X.w) A (getAttr (.ref a) f b) Q E s:=by
 obtain⟨mA,O,r,_,_,_⟩:=Bs I.hok e
 obtain⟨u,hu,ru⟩:=qp.some_of (v:=v) (o:=mA f) (by rw [← l];exact r f)
 exact get_map I.By O (c.get f) c.hd n hu (Qw ru) (h u _ (I.tok _) ru)
theorem t7 {m:Str}{g:Addr}{pl:Sem Bool}{Q:Value × List Value→Shared→Prop} (I:Inv X pins σ H s) (e:H a=some (.ins C dx fs)) (c:Ak X.K C) (k:Meth X.K C m g) (l:fs.lookup m=none)
   (h:Q (.ref g,[.ref a]) s):wpAny (model X.prog X.w) A (getMethod (.ref a) m pl) Q E s:=by
 obtain⟨mA,O,r,_,_,_⟩:=Bs I.hok e
 have hn:mA m=none:=qp.none_of (by rw [← l];exact r m)
 exact RC I.By O (c.get m) k.at_ k.fn hn h
theorem Mt {y:V}{u:Value}{Q:Unit→Shared→Prop} (I:Inv X pins σ H s) (e:H a=some (.ins C dx fs)) (c:Ak X.K C) (n:aJ X.K C f) (hl:fs.length<1000) (ry:RelV y u)
   (h:∀ s',Inv X pins σ (upd H a (.ins C dx (ph f y fs))) s'→Q () s'):wpAny (model X.prog X.w) A (setAttr (.ref a) f u) Q E s:=by
 obtain⟨mA,O,r,wi,_,ho⟩:=Bs I.hok e
 have hz:(fs.map (·.1)).length≤sizeLine:=by rw [List.length_map,sizeLine_eq];omega
 refine Wl I.By O c.sa c.po n.taker c.hd wi hz fun h' O' sb=>h _ ?_
 have hd:∃ o,h'.get? dx=some o:=let ⟨o,_,_,e',_⟩:=O'.ns; ⟨o,e'⟩
 refine I.write (x:=a) (e:=dx) (by rw [e];exact True.intro) (.inr ho) (fun b q hb z=>(sb.2 b hb).trans z) hd ?_
 refine⟨by rw [zI O.ne];exact ho,?_,O.ne,O'.obj,_,O'.ns,fun g=>?_,fun g hg=>?_⟩
 · have:=zc f y fs;omega
 · show qp ((ph f y fs).lookup g) (if g=f then some u else mA g)
   rw [zb]
   by_cases q:g=f
   · rw [if_pos q,if_pos q];exact ry
   · rw [if_neg q,if_neg q];exact r g
 · by_cases q:g=f
   · rw [q];exact (wV f y fs).1
   · refine (wV f y fs).2 g (wi g fun z=>hg ?_)
     show (if g=f then some u else mA g)=none
     rw [if_neg q];exact z
theorem Inv.made (I:Inv X pins σ H s):Inv X pins σ (upd (upd H s.heap.objs.size (.own (s.heap.objs.size+1))) (s.heap.objs.size+1) (.ins C s.heap.objs.size []))
   { s with heap:=(s.heap.push PySem.W.emptyDict).push (PySem.W.instObj C s.heap.objs.size) }:=by
 have e1:(s.heap.push PySem.W.emptyDict).get? s.heap.objs.size=some PySem.W.emptyDict:=Heap.get?_push_size s.heap rfl
 have e2:((s.heap.push PySem.W.emptyDict).push (PySem.W.instObj C s.heap.objs.size)).get? (s.heap.objs.size+1)=some (PySem.W.instObj C s.heap.objs.size):=by
   have:=Heap.get?_push_size (s.heap.push PySem.W.emptyDict) (o:=PySem.W.instObj C s.heap.objs.size) rfl
   rwa [Heap.size_push] at this
 have e3:(s.heap.push PySem.W.emptyDict).Ns s.heap.objs.size (fun _=>none):=⟨PySem.W.emptyDict,#[],_,e1,rfl,(fun e he=>absurd he (by simp)),fun _=>rfl⟩
 have I1:=I.laid (a:=s.heap.objs.size) (o:=.own (s.heap.objs.size+1)) (h':=s.heap.push PySem.W.emptyDict) (t':=s.toks) (fun b u q=>Heap.get?_push_of_some _ q) (Nat.le_refl _) ⟨_,e1⟩
 refine I1.laid (a:=s.heap.objs.size+1) (o:=.ins C s.heap.objs.size []) (t':=s.toks) (fun b u q=>Heap.get?_push_of_some _ q) (Nat.le_of_eq (Heap.size_push _ _)) ?_
 have ne:s.heap.objs.size≠s.heap.objs.size+1:=Nat.ne_of_lt (Nat.lt_succ_self _)
 refine⟨by rw [zI ne,zB],Nat.zero_le _,ne,e2,fun _=>none,(Heap.Ns1.of_empty e3).at fun o q=>Heap.get?_push_of_some _ q,fun _=>True.intro,fun y hy=>absurd rfl hy⟩
theorem Wm {prog:Program}{w:World}{env:Env}{e:Expr}{f:Str}{pos:Pos}{s:Shared}{Q:Value→Shared→Prop} (hb:attributeBase e f env (eval e env)=eval e env)
   (h:wpAny (model prog w) A (eval e env) (fun o s₁=>wpAny (model prog w) A (getAttr o f true) Q E s₁) E s):wpAny (model prog w) A (eval (.Attribute e f pos) env) Q E s :=
 Attribute_any_ h (by rw [arm_eval_Attribute,hb])
end
def apj (K:PySem.W.Frag) (ta:TE) (f:Str):TE:=fun σ H Q=>ta σ H fun x H1=>∃ a C dx fs v,x=.ref a∧H1 a=some (.ins C dx fs)∧Ak K C∧aJ K C f∧fs.lookup f=some v∧Q v H1
def apk (K:PySem.W.Frag) (ta tv:TE) (f:Str):TS:=fun D σ H=>tv σ H fun y H1=>ta σ H1 fun x H2=>∃ a C dx fs,x=.ref a∧H2 a=some (.ins C dx fs)∧Ak K C∧aJ K C f∧fs.length<1000 ∧
 D.nx σ (upd H2 a (.ins C dx (ph f y fs)))
def apl (X:Cx) (op:Operator) (rd:V→V→Hp→VK→Prop):Prop :=
 ∀ (pins:List (Addr × Obj)) (s:Shared) (σ:St) (H:Hp) (x y:V) (u v:Value) (Q:VK),Inv X pins σ H s→RelV x u→RelV y v→rd x y H Q→wpAny (model X.prog X.w) X.A (inplaceOp op u v) (EP X pins σ Q) X.xe s
section
variable {X:Cx}{o e value:Expr}{f:Str}{pos pos' tpos:Pos}{ta tv:TE}
theorem zM (he:PE X e ta) (hb:attributeBase e f X.env (eval e X.env)=eval e X.env):PE X (.Attribute e f pos) (apj X.K ta f):=by
 intro pins s σ H Q I h
 refine Wm hb (dO (he pins s σ H _ I h) fun u s1 zq=>?_)
 obtain⟨x,H1,I1,rx,a,C,dx,fs,v,ex,ea,c,n,l,q⟩:=zq
 subst ex
 obtain rfl:u=Value.ref a:=rx
 exact Ms I1 ea c n l fun u' s2 I2 ru=>⟨v,H1,I2,ru,q⟩
theorem yG (ha:PE X o ta) (hv:PE X value tv) (hs:swapsWith value (some (.Attribute o f pos')) pos.line X.env=pure false):PS X (.Assign [.Attribute o f pos'] value pos) (apk X.K ta tv f):=by
 intro pins s σ H D I h
 refine plainObj_wpAny_Assign_Attribute (dO (hv pins s σ H _ I h) fun u s1 ⟨y,H1,I1,ry,q⟩=>dO (ha pins s1 σ H1 _ I1 q) fun ov s2 ⟨x,H2,I2,rx,a,C,dx,fs,ex,ea,c,n,l,q2⟩=>?_) hs
 subst ex
 obtain rfl:ov=Value.ref a:=rx
 exact Mt I2 ea c n l ry fun s3 I3=>⟨σ,_,I3,q2⟩
def apm:V→V→Hp→VK→Prop:=fun x y H Q=>∃ i j,x=.int i∧y=.int j∧Q (.int (i+j)) H
theorem ZR:apl X .Add apm:=by
 rintro pins s σ H x y u v Q I rx ry ⟨i,j,rfl,rfl,q⟩
 obtain⟨t,rfl⟩:=(show ∃ t,u=Value.int i t from rx)
 obtain⟨t',rfl⟩:=(show ∃ t',v=Value.int j t' from ry)
 exact PyProof.Rows.iadd_int ⟨.int (i+j),H,I.tok _,⟨_,rfl⟩,q⟩
end
section
variable {X:Cx}{pins:List (Addr × Obj)}{σ:St}{H:Hp}{s:Shared}{A:Around}{E:Value→Shared→Prop}{Q:Value→Shared→Prop}{c:Value}{b:Bool}
inductive aD (K:PySem.W.Frag) (H:Hp):V→Value→Prop where
 | non:aD K H .non (.type "NoneType")
 | bl (x:Bool):aD K H (.bl x) (.type "bool")
 | int (i:Int):aD K H (.int i) (.type "int")
 | str (x:Str):aD K H (.str x) (.type "str")
 | flt (x:UInt64):aD K H (.flt x) (.type "float")
 | lst {a:Addr}{xs:List V} (e:H a=some (.lst xs)):aD K H (.ref a) (.type "list")
 | sI {a:Addr}{o:Obj}{xs:List V} (e:H a=some (.sI o (.lst xs))):aD K H (.ref a) (.type "list")
 | tup {a:Addr}{xs:List V} (e:H a=some (.tup xs)):aD K H (.ref a) (.type "tuple")
 | dK {a:Addr}{kvs:List (Key × V)} (e:H a=some (.dK kvs)):aD K H (.ref a) (.type "dict")
 | dT {a:Addr}{kvs:List (List Key × V)} (e:H a=some (.dT kvs)):aD K H (.ref a) (.type "dict")
 | ins {a C dx:Addr}{fs:List (Str × V)} (e:H a=some (.ins C dx fs)) (cl:Ak K C) (ha:PySem.W.findIn K (.ref C) "__class__" = some (some (.builtin "object.__class__")))
     (hn:PySem.W.specialIn K (.builtin "object.__class__") "__get__" = some (some (.builtin "getset_descriptor.__get__"))) (htk:PySem.W.takesIn K (.builtin "object.__class__")=some true)
     (hm:PySem.W.mroIn K C (.type "object")=some true):aD K H (.ref a) (.ref C)
end
end L2
namespace L2
open PySem PySem.Spec PyProof.Rows
structure fc (k:Nat) (A:Around):Prop where
 hd:A.handled=none
 dp:A.depth+3*k+5<recursionLimit
 un:A.units+16*k+200<cLine
theorem fc.mono {j k:Nat}{A:Around} (r:fc k A) (h:j≤k):fc j A:=⟨r.hd,by have:=r.dp;omega,by have:=r.un;omega⟩
theorem fc.deeper {k:Nat}{A:Around} (r:fc (k+1) A) (env:Env):fc k (A.deeper env) :=
 ⟨r.hd,by have:=r.dp;show A.depth+1+3*k+5<_;omega,by have:=r.un;show A.units+3+16*k+200<_;omega⟩
theorem fc.in1 {k:Nat}{A:Around} (r:fc (k+1) A):fc k A.in1 :=
 ⟨r.hd,by have:=r.dp;show A.depth+3*k+5<_;omega,by have:=r.un;show A.units+1+16*k+200<_;omega⟩
theorem Mu {A:Around}{C:Addr}{us:List Value}{kw:List (Str × Value)}:(A.under (.builtin "type.__call__" ⟨.ref C::us,kw⟩)).depth=A.depth+1:=by
 first | rfl | simp [Around.under,Code.weight,Code.isCreation,Code.isGuard,Code.isCaller,Code.frames,Code.isFrame,guardIds]
theorem Mv {A:Around}{C:Addr}{us:List Value}{kw:List (Str × Value)}:(A.under (.builtin "type.__call__" ⟨.ref C::us,kw⟩)).units=A.units+1:=by
 first | rfl | simp [Around.under,Code.cUnits,Code.frames,Code.isFrame]
theorem fc.make {k:Nat}{A:Around} (r:fc (k+1) A) (C:Addr) (us:List Value) (kw:List (Str × Value)):fc k (A.under (.builtin "type.__call__" ⟨.ref C::us,kw⟩)) :=
 ⟨r.hd,by have:=r.dp;rw [Mu];omega,by have:=r.un;rw [Mv];omega⟩
theorem fc.depth {k:Nat}{A:Around} (r:fc k A):A.depth<recursionLimit:=by have:=r.dp;omega
theorem fc.units {k:Nat}{A:Around} (r:fc k A):A.units+64<cLine:=by have:=r.un;omega
def Qx:TA:=fun _ H Q=>Q [] H
def RG (ta:TE) (tr:TA):TA:=fun σ H Q=>ta σ H fun x H1=>tr σ H1 fun xs H2=>Q (x::xs) H2
section
variable {X:Cx}{e:Expr}{es:List Expr}{te:TE}{t:TA}{pos:Pos}
theorem zD:PA X [] Qx:=fun _ _ _ _ H Q I h=>Calls.spliced_nil ⟨[],H,I,.nil,h⟩
theorem zA (ha:PE X e te) (hr:PA X es t) (hs:starEach (e::es) X.env=(false,eval e X.env)::starEach es X.env:=by rfl):PA X (e::es) (RG te t):=by
 intro pos pins s σ H Q I h
 rw [hs]
 show wpAny _ _ (spliced ((false,eval e X.env)::backTo pos (starEach es X.env))) _ _ s
 refine Calls.spliced_cons (dO (ha pins s σ H _ I h) fun u s1 zq=>?_)
 obtain⟨x,H1,I1,r1,q1⟩:=zq
 exact dO (hr pos pins s1 σ H1 _ I1 q1) fun us s2 ⟨xs,H2,I2,r2,q2⟩=>⟨x::xs,H2,I2,.cons r1 r2,q2⟩
def apn (t:TA):TE:=fun σ H Q=>t σ H fun xs H1=>xs.length≤sizeLine∧∀ p,H1 p=none→Q (.ref p) (upd H1 p (.tup xs))
def apo (t:TA):TE:=fun σ H Q=>t σ H fun xs H1=>xs.length≤sizeLine∧∀ p,H1 p=none→Q (.ref p) (upd H1 p (.lst xs))
theorem yA {x1} (h:PA X es t):PE X (.Tuple es x1 pos) (apn t):=by
 intro pins s σ H Q I hq
 refine wpAny_Tuple_spliced (dO (h pos pins s σ H _ I hq) fun us s1 ⟨xs,H1,I1,r,z,q⟩=>⟨by rw [← r.length];exact z,?_⟩)
 have hf:H1 s1.heap.objs.size=none:=I1.hok.fresh (Nat.le_refl _)
 refine⟨.ref s1.heap.objs.size,upd H1 s1.heap.objs.size (.tup xs),I1.laid (t':=s1.toks) (fun b u e=>Heap.get?_push_of_some _ e) (Nat.le_refl _) ?_,rfl,q _ hf⟩
 exact⟨z,us,r,⟨_,Heap.get?_push_size _ rfl,rfl,_,rfl⟩⟩
theorem yI (h:PA X es t):PE X (.List es pos) (apo t):=by
 intro pins s σ H Q I hq
 refine wpAny_List_spliced (dO (h pos pins s σ H _ I hq) fun us s1 ⟨xs,H1,I1,r,z,q⟩=>⟨by rw [← r.length];exact z,?_⟩)
 have hf:H1 s1.heap.objs.size=none:=I1.hok.fresh (Nat.le_refl _)
 refine⟨.ref s1.heap.objs.size,upd H1 s1.heap.objs.size (.lst xs),I1.laid (t':=s1.toks) (fun b u e=>Heap.get?_push_of_some _ e) (Nat.le_refl _) ?_,rfl,q _ hf⟩
 exact⟨z,us,0,r,Heap.get?_push_size _ rfl⟩
end
abbrev Sp:=List V→Hp→VK→XK→Prop
abbrev Ff:=List Env→Hp→Shared→XK→Value→Shared→Prop
structure vo (P:Program) (w:World) (K:PySem.W.Frag) (mg:Str→Option Value) (base:Heap) (A:Around) (outer:List Env) (s:Shared) (H:Hp):Prop where
 frames:A.frames=some outer
 mod:Mod K mg base
 bs:∀ b o,base.get? b=some o→s.heap.get? b=some o∧H b=none
 Ql:base.objs.size≤s.heap.objs.size
 qz:s.heap.FunFrames base outer
 Rm:∀ b∈frs outer,H b=none
 hok:rT P w H s.heap
 bare:AllBare s.gens
def CE (outer:List Env) (P:Program) (w:World) (H:Hp) (s:Shared) (Q:VK) (u:Value) (s':Shared):Prop :=
 ∃ v H',s'.os=s.os∧AllBare s'.gens∧Un (frs outer) [] H H' s.heap s'.heap∧rT P w H' s'.heap∧RelV v u∧Q v H'
def CR (CX:Ff) (outer:List Env) (P:Program) (w:World) (H:Hp) (s:Shared) (Q:VK) (E:XK) (r:Result) (s':Shared):Prop :=
 match r with
 | .ok (.ret u)=>CE outer P w H s Q u s'
 | .ok _=>False
 | .error e=>CX outer H s E e s'
structure aV (P:Program) (w:World) (K:PySem.W.Frag) (mg:Str→Option Value) (base:Heap) (CX:Ff) (k:Nat) (f:Addr) (fd:FuncData) (ps:List Str) (sp:Sp):Prop where
 len:∀ vs H Q E,sp vs H Q E→vs.length=ps.length
 run:∀ (A:Around) (outer:List Env) (s:Shared) (H:Hp) (args:Args) (us:List Value) (vs:List V) (Q:VK) (E:XK),fc k A→vo P w K mg base A outer s H→BindsTo s fd args (ps.zip us)→Vals vs us→sp vs H Q E →
   codeAny (model P w) A (.call (.ref f) args) (CR CX outer P w H s Q E) s
theorem aV.mono {P:Program}{w:World}{K:PySem.W.Frag}{mg:Str→Option Value}{base:Heap}{CX:Ff}{j k:Nat}{f:Addr}{fd:FuncData}{ps:List Str}{sp:Sp} (F:aV P w K mg base CX j f fd ps sp) (h:j≤k) :
   aV P w K mg base CX k f fd ps sp:=⟨F.len,fun A outer s H args us vs Q E hr=>F.run A outer s H args us vs Q E (hr.mono h)⟩
theorem aV.imp {P:Program}{w:World}{K:PySem.W.Frag}{mg:Str→Option Value}{base:Heap}{CX:Ff}{k:Nat}{f:Addr}{fd:FuncData}{ps:List Str}{sp BV:Sp} (F:aV P w K mg base CX k f fd ps sp)
   (h:∀ vs H Q E,BV vs H Q E→sp vs H Q E):aV P w K mg base CX k f fd ps BV :=
 ⟨fun vs H Q E q=>F.len vs H Q E (h _ _ _ _ q),fun A outer s H args us vs Q E hr he hb hv hs=>F.run A outer s H args us vs Q E hr he hb hv (h _ _ _ _ hs)⟩
theorem vo.make {P:Program}{w:World}{K:PySem.W.Frag}{mg:Str→Option Value}{base:Heap}{A:Around}{outer:List Env}{s:Shared}{H:Hp} (e:vo P w K mg base A outer s H) (C:Addr) (us:List Value) (kw:List (Str × Value)) :
   vo P w K mg base (A.under (.builtin "type.__call__" ⟨.ref C::us,kw⟩)) outer s H:=⟨by first | exact e.frames | (simpa [Around.under,Code.envs,Code.isFrame,pushEnvs] using e.frames),e.mod,e.bs,e.Ql,e.qz,e.Rm,e.hok,e.bare⟩
theorem vo.in1 {P:Program}{w:World}{K:PySem.W.Frag}{mg:Str→Option Value}{base:Heap}{A:Around}{outer:List Env}{s:Shared}{H:Hp} (e:vo P w K mg base A outer s H) :
   vo P w K mg base A.in1 outer s H:=⟨e.frames,e.mod,e.bs,e.Ql,e.qz,e.Rm,e.hok,e.bare⟩
section
variable {X:Cx}{pins:List (Addr × Obj)}{σ:St}{H:Hp}{s s':Shared}
theorem Inv.env0 (I:Inv X pins σ H s):vo X.prog X.w X.K X.mg X.base X.A X.stack s H :=
 ⟨I.ok.frames,I.ok.mod,I.bs,Nat.le_trans I.ok.Ql I.sz,I.stack,I.Hr,I.hok,I.bare⟩
theorem Inv.after {Q:VK}{u:Value} (I:Inv X pins σ H s) (h:CE X.stack X.prog X.w H s Q u s'):EP X pins σ Q u s':=by
 obtain⟨v,H',os,bare,un,hok,r,q⟩:=h
 obtain⟨hh,g,d,t,os'⟩:=s'
 obtain rfl:os'=s.os:=os
 exact⟨v,H',I.call (h':=hh) (g':=g) (d':=d) (t':=t) (ch:=[]) un hok bare (fun b z=>absurd z (by simp)),r,q⟩
end
def Yr (sp:Sp) (t8:List V) (E:XK) (t:TA):TE:=fun σ H Q=>t σ H fun vs H1=>sp (vs++t8) H1 Q E
def Ys (C:Addr) (sp:Sp) (t8:List V) (E:XK) (t:TA):TE:=fun σ H Q=>t σ H fun vs H1=>∀ x dx,H1 x=none→H1 dx=none→dx≠x →
 sp (.ref x::(vs++t8)) (upd (upd H1 dx (.own x)) x (.ins C dx [])) (fun v H2=>v=.non∧Q (.ref x) H2) E
def Binds (K:PySem.W.Frag) (fd:FuncData) (ps:List Str) (ds:List Value):Prop :=
 ∀ (s:Shared) (us:List Value),K.In s.heap→(us++ds).length=ps.length→BindsTo s fd ⟨us,[]⟩ (ps.zip (us++ds))
theorem Binds.all {K:PySem.W.Frag}{fd:FuncData}{ps:List Str} (h:∀ us:List Value,us.length=ps.length→bindArgs fd ⟨us,[]⟩=pure (ps.zip us)):Binds K fd ps []:=fun s us _ hl=>by
 rw [List.append_nil] at hl ⊢
 exact .of_eq (h us hl)
def Passes (CX:Ff) (X:Cx) (E:XK):Prop:=∀ (pins:List (Addr × Obj)) (σ:St) (H:Hp) (s:Shared) (e:Value) (s':Shared),Inv X pins σ H s→CX X.stack H s E e s'→X.xe e s'
section
variable {X:Cx}{CX:Ff}{k:Nat}{f C:Addr}{fd:FuncData}{ps:List Str}{sp:Sp}{t8:List V}{ds:List Value}{E:XK}{x m:Str}{p pos apos:Pos}{e o:Expr}{es:List Expr}{ta:TE}{t:TA}
theorem Hv {pins:List (Addr × Obj)}{σ:St}{H:Hp}{s:Shared}{Q:VK}{us:List Value}{vs:List V} (F:aV X.prog X.w X.K X.mg X.base CX k f fd ps sp) (hr:fc k X.A) (hb:Binds X.K fd ps ds) (hd:Vals t8 ds) (hx:Passes CX X E)
   (I:Inv X pins σ H s) (r:Vals vs us) (h:sp (vs++t8) H Q E):wpAny (model X.prog X.w) X.A (call (.ref f) us) (EP X pins σ Q) X.xe s:=by
 have r2:Vals (vs++t8) (us++ds):=r.append hd
 have hl:(us++ds).length=ps.length:=by rw [← r2.length];exact F.len _ _ _ _ h
 refine wpAny_call (codeAny_mono (F.run X.A X.stack s H ⟨us,[]⟩ (us++ds) (vs++t8) Q E hr I.env0 (hb s us I.By hl) r2 h) fun r s' hq=>?_)
 cases r with
 | error e=>exact hx pins σ H s e s' I hq
 | ok fl =>
   cases fl with
   | ret u=>exact I.after hq
   | next=>exact False.elim hq
   | brk=>exact False.elim hq
   | cont=>exact False.elim hq
theorem zT (F:aV X.prog X.w X.K X.mg X.base CX k f fd ps sp) (hr:fc k X.A) (hg:Gl X x) (hm:X.mg x=some (.ref f)) (hk:PySem.W.keepIn X.K (.ref f)=true) (hb:Binds X.K fd ps ds) (hd:Vals t8 ds) (hx:Passes CX X E)
   (ha:PA X (e::es) t) (hdb:(x == ("__debug__":Str))=false:=by decide) (he:starEach (e::es) X.env=(false,eval e X.env)::starEach es X.env:=by rfl) (hpl:(backTo pos (starEach es X.env)).any (·.1)=false:=by rfl) :
   PE X (.Call (.Name x p) (e::es) [] pos) (Yr sp t8 E t):=by
 intro pins s σ H Q I h
 refine wpAny_Call_Name_kw (rU I hg hm ?_ hdb)
 refine PySem.W.callWith_K (h₀:=X.base) I.ok.mod.Yp hk (dO (ha pos pins s σ H _ I h) fun us s1 ⟨vs,H1,I1,r,q⟩=>⟨I1.By,?_⟩) he hpl
 exact Hv F hr hb hd hx I1 r q
structure Mk (K:PySem.W.Frag) (C f:Addr):Prop where
 makes:PySem.W.makesIn K C=true
 init:PySem.W.findIn K (.ref C) "__init__" = some (some (.ref f))
 fn:PySem.W.isFn K (.ref f)=true
 kp:PySem.W.keepIn K (.ref C)=true
theorem JD {pins:List (Addr × Obj)}{σ:St}{H:Hp}{s:Shared}{Q:VK}{us:List Value}{vs:List V} (M:Mk X.K C f) (F:aV X.prog X.w X.K X.mg X.base CX k f fd ps sp) (hr:fc (k+1) X.A) (hb:Binds X.K fd ps ds) (hd:Vals t8 ds)
   (hx:Passes CX X E) (I:Inv X pins σ H s) (r:Vals vs us)
   (h:∀ x dx,H x=none→H dx=none→dx≠x→sp (.ref x::(vs++t8)) (upd (upd H dx (.own x)) x (.ins C dx [])) (fun v H2=>v=.non∧Q (.ref x) H2) E) :
   wpAny (model X.prog X.w) X.A (call (.ref C) us) (EP X pins σ Q) X.xe s:=by
 have hq:=h (s.heap.objs.size+1) s.heap.objs.size (I.hok.fresh (Nat.le_succ _)) (I.hok.fresh (Nat.le_refl _)) (Nat.ne_of_lt (Nat.lt_succ_self _))
 have I2:=Inv.made (C:=C) I
 have r2:Vals (V.ref (s.heap.objs.size+1)::(vs++t8)) (Value.ref (s.heap.objs.size+1)::(us++ds)):=.cons rfl (r.append hd)
 have hl:(Value.ref (s.heap.objs.size+1)::us++ds).length=ps.length:=by
   have e:=r2.length
   rw [F.len _ _ _ _ hq] at e
   exact e.symm
 refine wpAny_call (RD (f:=f) I.By M.makes M.init (beq_iff_eq.mp M.fn) (codeAny_mono (F.run _ X.stack _ _ ⟨Value.ref (s.heap.objs.size+1)::us,[]⟩ (Value.ref (s.heap.objs.size+1)::(us++ds)) _ _ E (hr.make C us [])
   (I2.env0.make C us []) (hb _ (Value.ref (s.heap.objs.size+1)::us) I2.By hl) r2 hq) fun r s' hq'=>?_))
 cases r with
 | error e=>exact hx pins σ _ _ e s' I2 hq'
 | ok fl =>
   cases fl with
   | ret u =>
     obtain⟨v,H',I3,rv,ev,q3⟩:=I2.after hq'
     subst ev
     exact⟨rv,⟨V.ref (s.heap.objs.size+1),H',I3,rfl,q3⟩⟩
   | next=>exact False.elim hq'
   | brk=>exact False.elim hq'
   | cont=>exact False.elim hq'
theorem yY (M:Mk X.K C f) (F:aV X.prog X.w X.K X.mg X.base CX k f fd ps sp) (hr:fc (k+1) X.A) (hg:Gl X x) (hm:X.mg x=some (.ref C)) (hb:Binds X.K fd ps ds) (hd:Vals t8 ds) (hx:Passes CX X E)
   (ha:PA X (e::es) t) (hdb:(x == ("__debug__":Str))=false:=by decide) (he:starEach (e::es) X.env=(false,eval e X.env)::starEach es X.env:=by rfl) (hpl:(backTo pos (starEach es X.env)).any (·.1)=false:=by rfl) :
   PE X (.Call (.Name x p) (e::es) [] pos) (Ys C sp t8 E t):=by
 intro pins s σ H Q I h
 refine wpAny_Call_Name_kw (rU I hg hm ?_ hdb)
 refine PySem.W.callWith_K (h₀:=X.base) I.ok.mod.Yp M.kp (dO (ha pos pins s σ H _ I h) fun us s1 ⟨vs,H1,I1,r,q⟩=>⟨I1.By,?_⟩) he hpl
 exact JD M F hr hb hd hx I1 r q
theorem JG (M:Mk X.K C f) (F:aV X.prog X.w X.K X.mg X.base CX k f fd ps sp) (hr:fc (k+1) X.A) (hg:Gl X x) (hm:X.mg x=some (.ref C)) (hb:Binds X.K fd ps ds) (hd:Vals t8 ds) (hx:Passes CX X E)
   (hdb:(x == ("__debug__":Str))=false:=by decide):PE X (.Call (.Name x p) [] [] pos) (Ys C sp t8 E Qx):=by
 intro pins s σ H Q I h
 refine wpAny_Call_Name_kw (rU I hg hm ?_ hdb)
 exact PySem.W.callWith_K0 I.By M.kp (JD (us:=[]) M F hr hb hd hx I .nil h)
end
section
variable {X:Cx}{CX:Ff}{k:Nat}{f C:Addr}{fd:FuncData}{ps ks:List Str}{sp:Sp}{E:XK}{x m:Str}{p pos apos aAl:Pos}{e o:Expr}{es:List Expr}{kws:List Keyword}{te ta:TE}{t tk:TA}{nm:Option Str}
structure apq (K:PySem.W.Frag) (fd:FuncData) (ps ks:List Str) (g:List Value→List Value→List Value) (gV:List V→List V→List V):Prop where
 to:∀ (s:Shared) (us ws:List Value),K.In s.heap→(g us ws).length=ps.length→BindsTo s fd ⟨us,ks.zip ws⟩ (ps.zip (g us ws))
 rel:∀ {vs:List V}{us:List Value}{zs:List V}{ws:List Value},Vals vs us→Vals zs ws→Vals (gV vs zs) (g us ws)
variable {g:List Value→List Value→List Value}{gV:List V→List V→List V}
end
structure au (N P:List Str) (sc:Scope):Prop where
 kind:sc.kind=.function
 co:sc.isCoroutine=false
 gen:sc.isGenerator=false
 nd:N.Nodup
 pre:N.take P.length=P
 par:∀ x∈P,sc.names.lookup x=some .local∨sc.names.lookup x=some .cell
 ZS:∀ y∈sc.names,y.2≠.free
theorem GC {kindOf:Str→Option NameKind}{x:Str}:∀ {binds:List (Str × Value)}{m:Str→Option Value},(∀ v,(x,v)∉binds)→bindL kindOf binds m x=m x
 | [],_,_=>rfl
 | (n,v)::r,m,h=>by
   unfold bindL
   rw [GC fun w hw=>h w (List.mem_cons_of_mem _ hw)]
   split
   · have:x≠n:=by rintro rfl;exact h v List.mem_cons_self
     simp [this]
   · rfl
theorem GD {kindOf:Str→Option NameKind}{x:Str}:∀ {binds:List (Str × Value)}{m:Str→Option Value},(∀ v,(x,v)∉binds)→bindC kindOf binds m x=m x
 | [],_,_=>rfl
 | (n,v)::r,m,h=>by
   unfold bindC
   rw [GD fun w hw=>h w (List.mem_cons_of_mem _ hw)]
   split
   · rfl
   · have:x≠n:=by rintro rfl;exact h v List.mem_cons_self
     simp [this]
theorem GF {kindOf:Str→Option NameKind}{x:Str}{v:Value}:∀ {P:List Str}{vs:List Value}{i:Nat}{m:Str→Option Value},P.Nodup→P[i]? = some x→vs[i]? = some v→kindOf x=some .local →
   bindL kindOf (P.zip vs) m x=some v
 | [],_,_,_,_,h,_,_=>by simp at h
 | _::_,[],_,_,_,_,h,_=>by simp at h
 | p::P,w::vs,0,m,nd,h1,h2,hk=>by
   simp at h1 h2;subst h1;subst h2
   show bindL kindOf ((p,w)::P.zip vs) m p=_
   unfold bindL
   rw [GC fun v hv=>(List.nodup_cons.mp nd).1 (List.of_mem_zip hv).1,if_pos hk]
   simp
 | p::P,w::vs,i+1,m,nd,h1,h2,hk=>by
   show bindL kindOf ((p,w)::P.zip vs) m x=_
   unfold bindL
   exact GF (i:=i) (List.nodup_cons.mp nd).2 (by simpa using h1) (by simpa using h2) hk
theorem GJ {kindOf:Str→Option NameKind}{x:Str}{v:Value}:∀ {P:List Str}{vs:List Value}{i:Nat}{m:Str→Option Value},P.Nodup→P[i]? = some x→vs[i]? = some v→kindOf x≠some .local →
   bindC kindOf (P.zip vs) m x=some v
 | [],_,_,_,_,h,_,_=>by simp at h
 | _::_,[],_,_,_,_,h,_=>by simp at h
 | p::P,w::vs,0,m,nd,h1,h2,hk=>by
   simp at h1 h2;subst h1;subst h2
   show bindC kindOf ((p,w)::P.zip vs) m p=_
   unfold bindC
   rw [GD fun v hv=>(List.nodup_cons.mp nd).1 (List.of_mem_zip hv).1,if_neg hk]
   simp
 | p::P,w::vs,i+1,m,nd,h1,h2,hk=>by
   show bindC kindOf ((p,w)::P.zip vs) m x=_
   unfold bindC
   exact GJ (i:=i) (List.nodup_cons.mp nd).2 (by simpa using h1) (by simpa using h2) hk
def start (N:List Str) (vs:List V):St:=vs.map some++List.replicate (N.length - vs.length) none
def JH (CX:Ff) (P:Program) (w:World) (K:PySem.W.Frag) (mg:Str→Option Value) (base:Heap) (N:List Str) (qual:Str) (scope:Scope) (f:Addr) (cd:Value) (A:Around) (outer:List Env) (s:Shared) (H:Hp) (E:XK):Cx where
 prog:=P
 w:=w
 K:=K
 mg:=mg
 base:=base
 A:=A.deeper (envOfC qual scope s.heap.objs.size f cd)
 N:=N
 s₀:=s
 H₀:=H
 env:=envOfC qual scope s.heap.objs.size f cd
 outer:=outer
 stack:=envOfC qual scope s.heap.objs.size f cd::outer
 ex:=[]
 calm:=true
 fn:=fun _=>true
 pn:=[]
 xe:=fun e s'=>wpAny (model P w) (A.deeper (envOfC qual scope s.heap.objs.size f cd)) (leaving (envOfC qual scope s.heap.objs.size f cd) e) (fun _ s''=>CX outer H s E e s'') (fun e' s''=>CX outer H s E e' s'') s'
theorem JL {sc:Scope}{n:Nat}{x:Str} (h:sc.names.lookup x=some .cell):∃ c,(cellsFrom n sc.names []).lookup x=some c:=by
 have q:=PySem.W.cellsFrom_some sc.names n [] (.inl h)
 exact Option.isSome_iff_exists.mp q
theorem Qy {CX:Ff}{P:Program}{w:World}{K:PySem.W.Frag}{mg:Str→Option Value}{base:Heap}{N ps:List Str}{qual:Str}{scope:Scope}{f:Addr}{cd:Value}{A:Around}{outer:List Env}{s s1:Shared}{H:Hp}{E:XK}{us:List Value}{vs:List V}
   (S:au N ps scope) (hd:A.handled=none) (e0:vo P w K mg base A outer s H) (hl:vs.length=ps.length) (r:Vals vs us)
   (x:InCallC s s.heap.objs.size (bindL (envOfC qual scope s.heap.objs.size f cd).kindOf (ps.zip us) fun _=>none) (cellsFrom (s.heap.objs.size+1) scope.names []) (bindC (envOfC qual scope s.heap.objs.size f cd).kindOf (ps.zip us) fun _=>none) s1) :
   Inv (JH CX P w K mg base N qual scope f cd A outer s H E) [] (start N vs) H s1:=by
 have hpl:ps.length≤N.length:=by have:=congrArg List.length S.pre;rw [List.length_take] at this;omega
 obtain⟨h1,tk,rfl,hk⟩:=x.done
 have Wn:∀ b:Addr,b∉(JH CX P w K mg base N qual scope f cd A outer s H E).ex:=fun b z=>absurd (show b∈([]:List Addr) from z) (by simp)
 refine⟨⟨e0.mod,S.kind,rfl,rfl,Nat.le_refl _,fun y z c h1 h2=>?_,fun y hy=>?_,fun y c _ h=>?_,fun _=>hd,Around.frames_deeper e0.frames,.inr ⟨rfl,rfl⟩,fun b z=>absurd z (Wn b),e0.bs,e0.Ql,fun b _ _=>Wn b,fun b z=>absurd z (Wn b),e0.qz,e0.Rm⟩,
   rfl,e0.bare,Un.kept hk,⟨_,x.toInCall.ns,fun i y v h1 h2 h3=>?_⟩,fun y c h=>⟨_,x.cell y c h⟩,e0.hok.fresh (Nat.le_refl _),fun y c h=>?_,fun p hp=>absurd (show p∈([]:List (Addr × Obj)) from hp) (by simp),e0.hok.kept hk,?_⟩
 · exact name_of_addr x.apart (PySem.mem_of_lookup h1) (PySem.mem_of_lookup h2)
 · have hy:scope.names.lookup y=some .cell∨scope.names.lookup y=some .free:=hy
   rcases hy with hy | hy
   · exact JL hy
   · exact absurd rfl (S.ZS _ (PySem.mem_of_lookup hy))
 · exact Nat.le_of_lt (x.above y c (PySem.mem_of_lookup h))
 · have hi:i<vs.length:=by
     unfold start at h2
     by_cases hi:i<vs.length
     · exact hi
     · rw [List.getElem?_append_right (by simpa using hi)] at h2
       rw [List.getElem?_replicate] at h2
       split at h2 <;> cases h2
   have ha:vs[i]? = some v:=by
     unfold start at h2
     rw [List.getElem?_append_left (by simpa using hi),List.getElem?_map] at h2
     cases e:vs[i]? with
     | none=>rw [e] at h2;cases h2
     | some a=>rw [e] at h2;cases h2;rfl
   obtain⟨u,hu,rv⟩:=r.get ha
   have hp:ps[i]? = some y:=by
     rw [← S.pre,List.getElem?_take_of_lt (by omega)];exact h1
   have ndP:ps.Nodup:=by rw [← S.pre];exact S.nd.sublist (List.take_sublist _ _)
   refine⟨u,rv,?_⟩
   rcases S.par y (List.mem_of_getElem? hp) with k | k
   · exact .inl ⟨k,GF ndP hp hu k⟩
   · obtain⟨c,e⟩:=JL (n:=s.heap.objs.size+1) k
     refine .inr ⟨.inl k,c,e,?_⟩
     have q:=x.cell y c e
     rw [GJ ndP hp hu (by show scope.names.lookup y≠_;rw [k];decide)] at q
     exact q
 · exact e0.hok.fresh (Nat.le_of_lt (x.above y c (PySem.mem_of_lookup h)))
 · unfold start
   show _=N.length
   rw [List.length_append,List.length_map,List.length_replicate]
   omega
theorem RJ {CX:Ff}{P:Program}{w:World}{K:PySem.W.Frag}{mg:Str→Option Value}{base:Heap}{k:Nat}{f:Addr}{name qual:Str}{params:Arguments}{body:List Stmt}{scope:Scope}{dV kV doc pm cdv ct oc:Value}{an od:Option Addr}
   {osl:Array (Option Value)}{N ps:List Str}{sp:Sp} (lk:K.lookup f=some ⟨oc,od,.func (PySem.W.fnOf name qual params body scope dV kV doc pm an cdv ct),osl⟩) (hcd:PySem.W.codeIn K cdv qual=true) (S:au N ps scope)
   (len:∀ vs H Q E,sp vs H Q E→vs.length=ps.length)
   (hbody:∀ (A:Around) (outer:List Env) (s:Shared) (H:Hp) (vs:List V) (Q:VK) (E:XK),fc k (A.deeper (envOfC qual scope s.heap.objs.size f cdv))→sp vs H Q E →
     ∃ t,o6 (JH CX P w K mg base N qual scope f cdv A outer s H E) body t∧t { nx:=fun _ H'=>Q .non H',rt:=Q } (start N vs) H) :
   aV P w K mg base CX (k+1) f (PySem.W.fnOf name qual params body scope dV kV doc pm an cdv ct) ps sp:=by
 refine⟨len,fun A outer s H args us vs Q E hr e0 hb r hsp=>?_⟩
 have hl:=len _ _ _ _ hsp
 have KX:K.In s.heap:=e0.mod.Yp.keeps fun b o e=>(e0.bs b o e).1
 have lim:s.heap.NoLimit:=e0.mod.nolimit.keeps fun b o e=>(e0.bs b o e).1
 have hkind:∀ y∈ps.zip us,scope.names.lookup y.1=some .local∨(scope.names.lookup y.1=some .cell∧((cellsFrom (s.heap.objs.size+1) scope.names []).lookup y.1).isSome=true):=fun⟨n,v⟩ hy=>by
   rcases S.par n (List.of_mem_zip hy).1 with q | q
   · exact .inl q
   · exact .inr ⟨q,PySem.W.cellsFrom_some _ _ _ (.inl q)⟩
 refine codeAny_call_function hr.depth (KX _ _ lk) rfl S.co S.gen rfl (PySem.W.codeRec_of KX hcd) (hb _ _ _ _ ?_)
 refine wpAny_newFunctionEnv_cells S.kind hkind fun env he s1 x=>?_
 subst he
 refine⟨lim.keeps x.toInCall.keep,codeAny_func ?_⟩
 obtain⟨t,ht,hq⟩:=hbody A outer s H vs Q E (hr.deeper _) hsp
 have I:Inv (JH CX P w K mg base N qual scope f cdv A outer s H E) [] (start N vs) H s1:=Qy S hr.hd e0 hl r x
 refine wpAny_mono (ht [] s1 (start N vs) H _ I hq) (fun fl s' hs=>?_) fun e s' hs=>hs
 have fin:∀ {σ':St}{H':Hp}{v:V}{u:Value},Inv (JH CX P w K mg base N qual scope f cdv A outer s H E) [] σ' H' s'→RelV v u→Q v H'→CE outer P w H s Q u s' :=
   fun {σ' H' v u} J rv q=>⟨v,H',J.os,J.bare,J.base,J.hok,rv,q⟩
 cases fl with
 | ret u =>
   obtain⟨v,σ',H',J,rv,q⟩:=hs
   exact fin J rv q
 | next =>
   obtain⟨σ',H',J,q⟩:=hs
   exact fin (v:=V.non) (u:=Value.none) J rfl q
 | brk =>
   obtain⟨_,_,_,q⟩:=hs
   exact False.elim q
 | cont =>
   obtain⟨_,_,_,q⟩:=hs
   exact False.elim q
end L2
namespace L2
open PySem PySem.Spec PyProof.Rows
section
variable {X:Cx}{x:Str}{p pos:Pos}{e:Expr}{es:List Expr}{t:TA}{id T:String}{r:List V→Hp→VK→Prop}
def tCB (r:List V→Hp→VK→Prop) (t:TA):TE:=fun σ H Q=>t σ H fun vs H1=>r vs H1 Q
theorem zR (hc:cQ X (.builtin id) r) (hg:Gl X x) (hm:X.mg x=none) (hv:bootBuiltins x=some (.builtin id)) (ha:PA X (e::es) t) (hn:x≠"__name__":=by decide) (hdb:(x == ("__debug__":Str))=false:=by decide)
   (he:starEach (e::es) X.env=(false,eval e X.env)::starEach es X.env:=by rfl) (hpl:(backTo pos (starEach es X.env)).any (·.1)=false:=by rfl):PE X (.Call (.Name x p) (e::es) [] pos) (tCB r t):=by
 intro pins s σ H Q I h
 refine wpAny_Call_Name_kw (Hs I hg hm hv ?_ hn hdb)
 exact PyProof.Rows.callWith_builtin1 (dO (ha pos pins s σ H _ I h) fun us s1 ⟨vs,H1,I1,r1,q1⟩=>hc pins s1 σ H1 vs us Q I1 r1 q1) he hpl
theorem xN (hc:cQ X (.type T) r) (hg:Gl X x) (hm:X.mg x=none) (hv:bootBuiltins x=some (.type T)) (ha:PA X (e::es) t) (hn:x≠"__name__":=by decide) (hdb:(x == ("__debug__":Str))=false:=by decide)
   (he:starEach (e::es) X.env=(false,eval e X.env)::starEach es X.env:=by rfl) (hpl:(backTo pos (starEach es X.env)).any (·.1)=false:=by rfl):PE X (.Call (.Name x p) (e::es) [] pos) (tCB r t):=by
 intro pins s σ H Q I h
 refine wpAny_Call_Name_kw (Hs I hg hm hv ?_ hn hdb)
 exact PyProof.Rows.callWith_type1 (dO (ha pos pins s σ H _ I h) fun us s1 ⟨vs,H1,I1,r1,q1⟩=>hc pins s1 σ H1 vs us Q I1 r1 q1) he hpl
end
end L2
namespace HT
open PySem PyProof.Rows
section
open PySem.SeqAt
open PySem.AutoSeq1 (wpAny_loadPart')
open PySem.MeetsSeq PySem.MeetsSeq2 PySem.MeetsSeq3
end
section
variable {prog:Program}{w:World}{A:Around}{E:Value→Shared→Prop}{s:Shared}
theorem Wo {t b:Addr}{vs ws:List Value}{Q:Value→Shared→Prop} (ht:IsTup s.heap t vs.toArray) (hb:IsTup s.heap b ws.toArray) (hv:vs≠[])
   (h1:ws=[]→Q (.ref t) s) (h2:ws≠[]→Q (.ref s.heap.objs.size) { s with heap:=s.heap.push { cls:=.type "tuple",data:=.seq (vs++ws).toArray } })
   (hsz:vs.length+ws.length≤sizeLine):wpAny (model prog w) A (binaryOp .Add (.ref t) (.ref b)) Q E s:=by
 obtain⟨⟨cls,dd,data,sl⟩,ho,hc,n,hd⟩:=id ht
 obtain⟨⟨cls2,dd2,data2,sl2⟩,ho2,hc2,n2,hd2⟩:=id hb
 simp only at hc hd hc2 hd2
 subst hc hd hc2 hd2
 have e:vs.toArray++ws.toArray=(vs++ws).toArray:=by simp
 by_cases hw:ws=[]
 · exact concat_meets ⟨_,ho,rfl⟩ ⟨_,ho2,rfl⟩ noFill_tuple_add seq_tuple_add PySem.F.slot_tuple_add PySem.F.entry_tuple_add (PySem.F.args_tuple_add_2 _ _)
     (tuple_addW1 t b vs.toArray ws.toArray n n2 dd dd2 sl sl2 (by simpa using hv) (by simp [hw])) ⟨ho,ho2,h1 hw⟩
 · refine concat_meets ⟨_,ho,rfl⟩ ⟨_,ho2,rfl⟩ noFill_tuple_add seq_tuple_add PySem.F.slot_tuple_add PySem.F.entry_tuple_add (PySem.F.args_tuple_add_2 _ _)
     (tuple_addW2 t b vs.toArray ws.toArray n n2 dd dd2 sl sl2 (by simpa using hv) (by simpa using hw) (by rw [List.size_toArray,List.size_toArray];exact hsz)) ⟨ho,ho2,?_⟩
   rw [e]
   exact h2 hw
def je (n d:Nat):Option Int→Nat
 | none=>d
 | some v=>if v<0 then (v+(n:Int)).toNat else min v.toNat n
theorem RK (n d:Nat):je n d none=d:=rfl
theorem Wq (n d k:Nat):je n d (some (k:Int))=min k n:=by
 show (if (k:Int)<0 then ((k:Int)+(n:Int)).toNat else min (k:Int).toNat n)=min k n
 rw [if_neg (by omega),Int.toNat_natCast]
theorem ZV (n d:Nat) (hd:d≤n) (o:Option Int):je n d o≤n:=by
 cases o with
 | none=>exact hd
 | some v =>
   show (if v<0 then (v+(n:Int)).toNat else min v.toNat n)≤n
   by_cases hv:v<0
   · rw [if_pos hv];omega
   · rw [if_neg hv];exact Nat.min_le_right _ _
theorem Pa (v:Int) (n d:Nat):(if v<0 then max (v+(n:Int)) 0 else min v (n:Int))=((je n d (some v):Nat):Int):=by
 show (if v<0 then max (v+(n:Int)) 0 else min v (n:Int))=(((if v<0 then (v+(n:Int)).toNat else min v.toNat n):Nat):Int)
 by_cases hv:v<0
 · simp only [if_pos hv];omega
 · simp only [if_neg hv];omega
theorem Mw (lo hi:Option Int) (n:Nat):Builtin.Slice.sliceAdjust lo hi 1 (n:Int)=(((je n 0 lo:Nat):Int),((je n n hi:Nat):Int)):=by
 have h1:¬ ((1:Int)<0):=by omega
 unfold Builtin.Slice.sliceAdjust
 simp only [h1,if_false]
 refine Prod.ext ?_ ?_
 · cases lo with
   | none=>rfl
   | some v=>exact Pa v n 0
 · cases hi with
   | none=>rfl
   | some v=>exact Pa v n n
theorem Mx (i j:Nat):Builtin.Slice.slicePlaces (i:Int) (j:Int) 1=j - i:=by
 unfold Builtin.Slice.slicePlaces
 have h1:(1:Int) > 0:=by omega
 simp only [h1,if_true,Int.ediv_one]
 split <;> omega
theorem BW {v:Value}{o:Option Int}{Q:Option Int→Shared→Prop} (p:IsPart v o) (h:Q o s):wpAny (model prog w) A (Builtin.Slice.slicePartIndex v) Q E s:=by
 cases p with
 | none=>exact slicePart_none h
 | int i t=>exact slicePart_int h
theorem wW {sl:Addr}{vl vu:Value}{lo hi:Option Int}{n:Nat}{Q:Int × Int × Nat→Shared→Prop} (hs:s.heap.IsSliceOf sl vl vu .none) (pl:IsPart vl lo) (pu:IsPart vu hi)
   (h:Q (((je n 0 lo:Nat):Int),1,je n n hi - je n 0 lo) s):wpAny (model prog w) A (Builtin.Slice.sliceApplied (.ref sl) (pure (n:Int))) Q E s:=by
 obtain⟨os,hos,hcs,hds⟩:=id hs
 unfold Builtin.Slice.sliceApplied Builtin.Slice.sliceFields
 refine wpAny_bind (wpAny_bind (wpAny_field hos hds (x:=vl) rfl (wpAny_bind (wpAny_field hos hds (x:=vu) rfl (wpAny_bind (wpAny_field hos hds (x:=.none) rfl (wpAny_pure ?_)))))))
 refine wpAny_bind (slicePart_none ?_)
 show wpAny _ _ (if ((1:Int) == 0)=true then _ else _) _ _ s
 rw [if_neg (by decide)]
 refine wpAny_bind (BW pl (wpAny_bind (BW pu (wpAny_bind (wpAny_pure ?_)))))
 show wpAny _ _ (match Builtin.Slice.sliceAdjust lo hi 1 (n:Int) with | (lo,hi)=>pure (lo,(1:Int),Builtin.Slice.slicePlaces lo hi 1)) _ _ s
 rw [Mw lo hi n]
 show wpAny _ _ (pure (((je n 0 lo:Nat):Int),(1:Int),Builtin.Slice.slicePlaces ((je n 0 lo:Nat):Int) ((je n n hi:Nat):Int) 1)) _ _ s
 rw [Mx]
 exact wpAny_pure h
theorem RM (xs:Array Value) (i k:Nat):((List.range k).filterMap fun (m:Nat)=>xs[((i:Int)+(m:Int)*1).toNat]?).toArray=((xs.toList.drop i).take k).toArray:=by
 have e:(fun (m:Nat)=>xs[((i:Int)+(m:Int)*1).toNat]?)=fun m=>xs[i+m]?:=by
   funext m
   have:((i:Int)+(m:Int)*1).toNat=i+m:=by omega
   rw [this]
 rw [e]
 have:=pick_run xs i k
 rw [List.filterMap_map] at this
 have e2:((fun x=>xs[x]?) ∘ fun x=>i+x)=fun m=>xs[i+m]?:=rfl
 rw [e2] at this
 rw [this]
theorem vp {t sl:Addr}{items:Array Value}{vl vu:Value}{lo hi:Option Int}{Q:Value→Shared→Prop} (ht:IsTup s.heap t items) (hs:s.heap.IsSliceOf sl vl vu .none) (pl:IsPart vl lo) (pu:IsPart vu hi)
   (hw:¬ (je items.size 0 lo=0∧je items.size items.size hi=items.size))
   (h:Q (.ref s.heap.objs.size) { s with heap:=s.heap.push { cls:=.type "tuple",data:=.seq ((items.toList.drop (je items.size 0 lo)).take (je items.size items.size hi - je items.size 0 lo)).toArray } })
   (hsz:items.size≤sizeLine):wpAny (model prog w) A (getItem (.ref t) (.ref sl)) Q E s:=by
 have Pb:sizeOk (.seq ((items.toList.drop (je items.size 0 lo)).take (je items.size items.size hi - je items.size 0 lo)).toArray):=by
   show ((items.toList.drop (je items.size 0 lo)).take (je items.size items.size hi - je items.size 0 lo)).toArray.size≤sizeLine
   rw [List.size_toArray,List.length_take,List.length_drop,Array.length_toList]
   omega
 have hj:je items.size items.size hi≤items.size:=ZV _ _ (Nat.le_refl _) hi
 obtain⟨os,hos,hcs,hds⟩:=id hs
 have hTs:s.TypeIs (.ref sl) "slice":=⟨os,hos,hcs⟩
 unfold getItem
 try with_reducible refine wpAny_holding ?_
 first | refine wpAny_bind (wpAny_pure ?_) | skip
 refine wpAny_bind (wpAny_sequenceKey ht.typeIs (by decide) ?_)
 refine wpAny_bind (wpAny_callSpecial?_slot (name:=‹"__getitem__"›) ht.typeIs PyProof.Rows.slot_tuple_getitem
   (wpAny_call_entry PyProof.Rows.slot_tuple_getitem ht.typeIs entry_tuple_getitem ?_ (args_tuple_getitem _ _)))
 show wpAny _ _ (Builtin.Tuple.tupleItemsOf (.ref t) >>= _) _ _ s
 refine wpAny_bind (tupleItemsOf_ ht ?_)
 refine wpAny_bind (wpAny_typeOf hTs ?_)
 rw [if_pos (by decide)]
 refine wpAny_bind (wW hs pl pu ?_)
 have hno:¬ ((((je items.size 0 lo:Nat):Int) == 0 && (1:Int) == 1 && (je items.size items.size hi - je items.size 0 lo) == items.size)=true):=by
   intro q
   rw [Bool.and_eq_true,Bool.and_eq_true] at q
   have q1:((je items.size 0 lo:Nat):Int)=0:=eq_of_beq q.1.1
   have q2:je items.size items.size hi - je items.size 0 lo=items.size:=eq_of_beq q.2
   exact hw ⟨by omega,by omega⟩
 show wpAny _ _ (if (((je items.size 0 lo:Nat):Int) == 0 && (1:Int) == 1 && (je items.size items.size hi - je items.size 0 lo) == items.size)=true then _ else _) _ _ s
 rw [if_neg hno,RM]
 first
   | exact wpAny_bind (m:=Builtin.Tuple.tupleExact _) (wpAny_newObj_type (wpAny_pure ⟨_,rfl,wpAny_pure h⟩) Pb)
   | exact wpAny_bind (m:=Builtin.Tuple.tupleExact _) (wpAny_newObj_type (wpAny_bind (wpAny_pure (wpAny_pure ⟨_,rfl,wpAny_pure h⟩))) Pb)
   | exact wpAny_bind (wpAny_bind (m:=Builtin.Tuple.tupleExact _) (wpAny_newObj_type (wpAny_pure (wpAny_pure ⟨_,rfl,wpAny_pure h⟩)) Pb))
   | exact wpAny_bind (wpAny_bind (m:=Builtin.Tuple.tupleExact _) (wpAny_newObj_type (wpAny_pure ⟨_,rfl,wpAny_pure h⟩) Pb))
end
end HT
namespace L2
open PySem PySem.Spec PyProof.Rows
abbrev TO:=St→Hp→(Option Int→Hp→Prop)→Prop
def PO (X:Cx) (e:Option Expr) (t:TO):Prop :=
 ∀ (pins:List (Addr × Obj)) (s:Shared) (σ:St) (H:Hp) (Q:Option Int→Hp→Prop),Inv X pins σ H s→t σ H Q →
   wpAny (model X.prog X.w) X.A (evalPart e X.env) (fun u s'=>∃ o H',Inv X pins σ H' s'∧IsPart u o∧Q o H') X.xe s
def Wr:TO:=fun _ H Q=>Q none H
def adv (t:TE):TO:=fun σ H Q=>t σ H fun x H1=>∃ i,x=.int i∧Q (some i) H1
section
variable {X:Cx}{e:Expr}{te:TE}{lo hi:Option Expr}{tl th:TO}{pos p2:Pos}
theorem Pg:PO X none Wr:=by
 intro pins s σ H Q I h
 rw [evalPart_none]
 exact wpAny_pure ⟨none,H,I,.none,h⟩
theorem Ph (h:PE X e te):PO X (some e) (adv te):=by
 intro pins s σ H Q I hw
 rw [evalPart_some]
 refine dO (h pins s σ H _ I hw) fun u s1 zq=>?_
 obtain⟨x,H1,I1,r1,q1⟩:=zq
 obtain⟨i,rfl,q⟩:=q1
 obtain⟨t,rfl⟩:=r1
 exact⟨some i,H1,I1,.int i t,q⟩
def vq (X:Cx) (r:V→Option Int→Option Int→Hp→VK→Prop):Prop :=
 ∀ (pins:List (Addr × Obj)) (s:Shared) (σ:St) (H:Hp) (x:V) (v vl vu:Value) (lo hi:Option Int) (sl:Addr) (Q:VK),Inv X pins σ H s→RelV x v→s.heap.IsSliceOf sl vl vu .none→IsPart vl lo→IsPart vu hi→r x lo hi H Q →
   ∃ T id,typeLookup (.type T) "__getitem__" = pure (some (.builtin id))∧s.TypeIs v T∧wpAny (model X.prog X.w) X.A (getItem v (.ref sl)) (EP X pins σ Q) X.xe s
theorem vq.or {r r':V→Option Int→Option Int→Hp→VK→Prop} (h:vq X r) (h':vq X r'):vq X (fun x lo hi H Q=>r x lo hi H Q∨r' x lo hi H Q):=by
 intro pins s σ H x v vl vu lo hi sl Q I rx hs pl pu q
 rcases q with q | q
 · exact h pins s σ H x v vl vu lo hi sl Q I rx hs pl pu q
 · exact h' pins s σ H x v vl vu lo hi sl Q I rx hs pl pu q
def tSl (r:V→Option Int→Option Int→Hp→VK→Prop) (te:TE) (tl th:TO):TE:=fun σ H Q=>te σ H fun x H1=>tl σ H1 fun l H2=>th σ H2 fun u H3=>r x l u H3 Q
theorem JM {r:V→Option Int→Option Int→Hp→VK→Prop} (hr:vq X r) (he:PE X e te) (hl:PO X lo tl) (hu:PO X hi th):PE X (.Subscript e (.Slice lo hi none p2) pos) (tSl r te tl th):=by
 intro pins s σ H Q I h
 refine Subscript_ (dO (he pins s σ H _ I h) fun v s1 zq=>?_)
 obtain⟨x,H1,I1,r1,q1⟩:=zq
 refine wpAny_Slice (dO (hl pins s1 σ H1 _ I1 q1) fun vl s2 ⟨l,H2,I2,pl,q2⟩=>dO (hu pins s2 σ H2 _ I2 q2) fun vu s3 zq=>?_)
 obtain⟨u,H3,I3,pu,q3⟩:=zq
 rw [evalPart_none]
 refine wpAny_pure ?_
 have I4:Inv X pins σ H3 { s3 with heap:=s3.heap.push { cls:=.type "slice",data:=.fields #[vl,vu,.none] } }:=I3.kept (t':=s3.toks) fun b ob q=>Heap.get?_push_of_some _ q
 obtain⟨T,id,hT,ht,hg⟩:=hr pins { s3 with heap:=s3.heap.push { cls:=.type "slice",data:=.fields #[vl,vu,.none] } } σ H3 x v vl vu l u s3.heap.objs.size Q I4 r1 (Heap.IsSliceOf.new ..) pl pu q3
 show wpAny (model X.prog X.w) X.A (subscriptTail e (.Slice lo hi none p2) v (.ref s3.heap.objs.size)) (EP X pins σ Q) X.xe { s3 with heap:=s3.heap.push { cls:=.type "slice",data:=.fields #[vl,vu,.none] } }
 exact tail_any (ops:=[.ref s3.heap.objs.size,v]) ht hT hg (by with_unfolding_all rfl)
def BZ (xs:List V) (lo hi:Option Int):List V:=(xs.drop (HT.je xs.length 0 lo)).take (HT.je xs.length xs.length hi - HT.je xs.length 0 lo)
theorem zf (xs:List V) (lo hi:Option Int):(BZ xs lo hi).length≤xs.length:=by
 unfold BZ
 rw [List.length_take,List.length_drop]
 omega
def apr (K:PySem.W.Frag):V→Option Int→Option Int→Hp→VK→Prop:=fun x lo hi H Q=>∃ a xs,x=.ref a∧eY K H a xs ∧
 ¬ (HT.je xs.length 0 lo=0∧HT.je xs.length xs.length hi=xs.length)∧∀ p,H p=none→Q (.ref p) (upd H p (.tup (BZ xs lo hi)))
theorem ZW:vq X (apr X.K):=by
 intro pins s σ H x v vl vu lo hi sl Q I rx hs pl pu h
 obtain⟨a,xs,rfl,hx,hw,q⟩:=h
 cases rx
 obtain⟨its,r,ht,hz⟩:=I.tuple hx
 have hlen:its.toArray.size=xs.length:=by rw [List.size_toArray];exact r.length.symm
 refine⟨"tuple",_,PyProof.Rows.slot_tuple_getitem.lookup,ht.typeIs,?_⟩
 refine HT.vp ht hs pl pu (by rw [hlen];exact hw) ?_ (by rw [hlen];exact hz)
 rw [hlen]
 refine⟨.ref s.heap.objs.size,_,I.laid (t':=s.toks) (o:=.tup (BZ xs lo hi)) (fun b ob q=>Heap.get?_push_of_some _ q) (Nat.le_refl _) ?_,rfl,q _ (I.hok.fresh (Nat.le_refl _))⟩
 exact⟨Nat.le_trans (zf xs lo hi) hz,_,(r.drop (HT.je xs.length 0 lo)).take (HT.je xs.length xs.length hi - HT.je xs.length 0 lo),IsTup.new _ _⟩
def adw (K:PySem.W.Frag):R2:=fun x y H Q=>∃ a b xs ys,x=.ref a∧y=.ref b∧eY K H a xs∧eY K H b ys∧xs≠[]∧xs.length+ys.length≤sizeLine ∧
 (ys=[]→Q (.ref a) H)∧(ys≠[]→∀ p,H p=none→Q (.ref p) (upd H p (.tup (xs++ys))))
theorem Vals.Hw {xs:List V}{us:List Value} (r:Vals xs us):us=[]↔xs=[]:=by
 cases r with
 | nil=>simp
 | cons _ _=>simp
theorem Hx:jc X (binaryOp .Add) (adw X.K):=by
 intro pins s σ H x y v u Q I rx ry h
 obtain⟨a,b,xs,ys,rfl,rfl,ha,hb,hx,hz,q1,q2⟩:=h
 cases rx
 cases ry
 obtain⟨its,r1,p1,_⟩:=I.tuple ha
 obtain⟨its2,r2,p2,_⟩:=I.tuple hb
 refine HT.Wo p1 p2 (fun z=>hx (r1.Hw.mp z)) (fun z=>⟨.ref a,H,I,rfl,q1 (r2.Hw.mp z)⟩) (fun z=>?_) (by rw [← r1.length,← r2.length];exact hz)
 refine⟨.ref s.heap.objs.size,_,I.laid (t':=s.toks) (o:=.tup (xs++ys)) (fun b ob q=>Heap.get?_push_of_some _ q) (Nat.le_refl _) ?_,rfl,q2 (fun w=>z (r2.Hw.mpr w)) _ (I.hok.fresh (Nat.le_refl _))⟩
 exact⟨by rw [List.length_append];exact hz,_,r1.append r2,IsTup.new _ _⟩
end
end L2
namespace L2
open PySem PySem.Spec PyProof.Rows
def ixN (n:Nat) (i:Int):Option Nat:=if 0≤i then (if i<n then some i.toNat else none) else if -(n:Int)≤i then some (i+n).toNat else none
def jD {α:Type} (xs:List α) (i:Int):Option α:=(ixN xs.length i).bind fun j=>xs[j]?
theorem Ws {n:Nat}{i:Int}{j:Nat} (h:ixN n i=some j):seqIndex? i n=some j∧j<n∧-(n:Int)≤i∧i<n:=by
 unfold ixN at h
 by_cases h0:0≤i
 · rw [if_pos h0] at h
   by_cases h1:i<n
   · rw [if_pos h1] at h
     have e:i.toNat=j:=Option.some.inj h
     exact⟨by rw [seqIndex_of h0 h1,e],by omega,by omega,h1⟩
   · rw [if_neg h1] at h;cases h
 · rw [if_neg h0] at h
   by_cases h1:-(n:Int)≤i
   · rw [if_pos h1] at h
     have e:(i+n).toNat=j:=Option.some.inj h
     exact⟨by rw [seqIndex_neg (by omega) h1,e],by omega,h1,by omega⟩
   · rw [if_neg h1] at h;cases h
theorem Hy {α:Type}{xs:List α}{i:Int}{v:α} (h:jD xs i=some v):∃ j,seqIndex? i xs.length=some j∧xs[j]? = some v∧j<xs.length∧-(xs.length:Int)≤i∧i<xs.length:=by
 unfold jD at h
 cases e:ixN xs.length i with
 | none=>rw [e] at h;cases h
 | some j =>
   rw [e] at h
   obtain⟨h1,h2,h3,h4⟩:=Ws e
   exact⟨j,h1,h,h2,h3,h4⟩
theorem zV {α:Type}{xs:List α}{j:Nat}{v:α} (h:xs[j]? = some v):jD xs (j:Int)=some v:=by
 have hj:j<xs.length:=(List.getElem?_eq_some_iff.mp h).1
 have e:ixN xs.length (j:Int)=some j:=by
   unfold ixN
   rw [if_pos (by omega),if_pos (by omega)];simp
 unfold jD;rw [e];exact h
def Wt (b:Expr):Prop:=∀ o i,subscripted b false o i=operate [o,i] (getItem o i)
def vf (X:Cx) (r:R2):Prop :=
 ∀ (value slice:Expr) (pins:List (Addr × Obj)) (s:Shared) (σ:St) (H:Hp) (x y:V) (v u:Value) (Q:VK),Inv X pins σ H s→RelV x v→RelV y u→r x y H Q →
   subscripted slice false v u=operate [v,u] (getItem v u)→wpAny (model X.prog X.w) X.A (subscriptTail value slice v u) (EP X pins σ Q) X.xe s
def MtR (X:Cx) (id:String) (r:V→List V→Hp→VK→Prop):Prop :=
 ∀ (pins:List (Addr × Obj)) (s:Shared) (σ:St) (H:Hp) (x:V) (xs:List V) (v:Value) (us:List Value) (Q:VK),Inv X pins σ H s→RelV x v→Vals xs us→r x xs H Q →
   wpAny (model X.prog X.w) X.A (call (.builtin id) (v::us)) (EP X pins σ Q) X.xe s
section
variable {X:Cx}{a b:Expr}{ta tb:TE}{pos:Pos}
theorem vf.or {r r':R2} (h:vf X r) (h':vf X r'):vf X (fun x y H Q=>r x y H Q∨r' x y H Q):=by
 intro value slice pins s σ H x y v u Q I rx ry q hs
 rcases q with q | q
 · exact h value slice pins s σ H x y v u Q I rx ry q hs
 · exact h' value slice pins s σ H x y v u Q I rx ry q hs
theorem MtR.or {id:String}{r r':V→List V→Hp→VK→Prop} (h:MtR X id r) (h':MtR X id r'):MtR X id (fun x xs H Q=>r x xs H Q∨r' x xs H Q):=by
 intro pins s σ H x xs v us Q I rx rs q
 rcases q with q | q
 · exact h pins s σ H x xs v us Q I rx rs q
 · exact h' pins s σ H x xs v us Q I rx rs q
theorem zW {r:R2} (hr:vf X r) (ha:PE X a ta) (hb:PE X b tb) (hs:Wt b):PE X (.Subscript a b pos) (Mq r ta tb):=by
 intro pins s σ H Q I h
 exact Subscript_ (ZP ha hb I h fun v u s2 x y H2 I2 rx ry q=>hr a b pins s2 σ H2 x y v u Q I2 rx ry q (hs _ _))
def aps (K:PySem.W.Frag):R2:=fun x y H Q=>∃ p xs i v,x=.ref p∧y=.int i∧cB K H p xs∧jD xs i=some v∧Q v H
def apt (K:PySem.W.Frag):R2:=fun x y H Q=>∃ p xs i v,x=.ref p∧y=.int i∧eY K H p xs∧jD xs i=some v∧Q v H
def apu:R2:=fun x y H Q=>∃ z i c,x=.str z∧y=.int i∧z.length≤sizeLine∧jD z.cps.toList i=some c∧Q (.str ⟨#[c]⟩) H
theorem bQ:vf X (aps X.K):=by
 intro value slice pins s σ H x y v u Q I rx ry h hs
 obtain⟨p,xs,i,z,rfl,rfl,hq,he,q⟩:=h
 cases rx
 obtain⟨t,rfl⟩:=ry
 obtain⟨its,r,pl,hz⟩:=I.list hq
 obtain⟨j,h1,h2,h3,h4,h5⟩:=Hy he
 obtain⟨w,ew,Qz⟩:=r.get h2
 have hl:=r.length
 have hn:=BR
 have fin:EP X pins σ Q w s:=⟨z,H,I,Qz,q⟩
 by_cases h0:0≤i
 · have hj:i.toNat=j:=by
     rw [seqIndex_of h0 h5] at h1
     exact Option.some.inj h1
   exact item_listR pl.isList h0 (by omega) (by rw [hj];simpa using ew) fin hs
 · have hj:(i+(its.toArray.size:Int)).toNat=j:=by
     rw [seqIndex_neg (by omega) h4] at h1
     rw [List.size_toArray,← hl]
     exact Option.some.inj h1
   exact subscriptTail_builtinR (x:=w) pl.isList.typeIs slot_list_getitem.lookup
     (wpAny_getItem_list_neg (Q:=fun r s'=>r=w∧EP X pins σ Q r s') pl.isList (by omega) (by rw [List.size_toArray] <;> omega) (by omega) (by rw [hj];simpa using ew) ⟨rfl,fin⟩) hs
theorem zY:vf X (apt X.K):=by
 intro value slice pins s σ H x y v u Q I rx ry h hs
 obtain⟨p,xs,i,z,rfl,rfl,hq,he,q⟩:=h
 cases rx
 obtain⟨t,rfl⟩:=ry
 obtain⟨its,r,pl,hz⟩:=I.tuple hq
 obtain⟨j,h1,h2,h3,h4,h5⟩:=Hy he
 obtain⟨w,ew,Qz⟩:=r.get h2
 have hl:=r.length
 have hn:=BR
 have fin:EP X pins σ Q w s:=⟨z,H,I,Qz,q⟩
 exact subscriptTail_builtinR (x:=w) pl.typeIs slot_tuple_getitem.lookup
   (getItem_tuple (j:=j) (Q:=fun r s'=>r=w∧EP X pins σ Q r s') pl (by omega) (by omega) (by rw [List.size_toArray,← hl];exact h1) (by simpa using ew) ⟨rfl,fin⟩) hs
theorem RN:vf X apu:=by
 intro value slice pins s σ H x y v u Q I rx ry h hs
 obtain⟨z,i,c,rfl,rfl,hz,he,q⟩:=h
 obtain⟨t,rfl⟩:=rx
 obtain⟨t',rfl⟩:=ry
 obtain⟨j,h1,h2,h3,h4,h5⟩:=Hy he
 have hl:z.cps.toList.length=z.length:=by simp [Str.length]
 rw [hl] at h1 h4 h5
 have hn:=BR
 exact tail_any (typeIs_str s z t) slot_str_getitem.lookup (getItem_str (c:=c) (by
   have e1:decide (i < -(2 ^ 63:Int))=false:=decide_eq_false (by omega)
   have e2:decide (i ≥ 2 ^ 63)=false:=decide_eq_false (by omega)
   rw [e1,e2,Bool.or_false]) (by rw [h1];simpa using h2) ⟨.str ⟨#[c]⟩,H,I.tok _,⟨_,rfl⟩,q⟩) hs
theorem Inv.lst {pins:List (Addr × Obj)}{σ:St}{H:Hp}{s:Shared}{p:Addr}{xs:List V} (I:Inv X pins σ H s) (h:H p=some (.lst xs)) :
   ∃ (its:List Value) (n:Nat),Vals xs its∧s.heap.get? p=some { cls:=.type "list",data:=.seq its.toArray n }∧xs.length≤sizeLine:=by
 obtain⟨z,its,n,r,e⟩:=I.hok p _ h
 exact⟨its,n,r,e,z⟩
theorem Hz (lo hi:Option Int) (n:Nat):(sliceBounds lo hi none n).1=((HT.je n 0 lo:Nat):Int)∧(sliceBounds lo hi none n).2.1=((HT.je n n hi:Nat):Int)∧(sliceBounds lo hi none n).2.2=1:=by
 refine⟨?_,?_,rfl⟩
 · cases lo with
   | none=>simp [sliceBounds,HT.je]
   | some i =>
     simp only [sliceBounds,HT.je,Option.getD_none,show (1:Int) > 0 by decide,if_true]
     by_cases h:i<0
     · simp only [h,if_true] <;> omega
     · simp only [h,if_false] <;> omega
 · cases hi with
   | none=>simp [sliceBounds,HT.je]
   | some i =>
     simp only [sliceBounds,HT.je,Option.getD_none,show (1:Int) > 0 by decide,if_true]
     by_cases h:i<0
     · simp only [h,if_true] <;> omega
     · simp only [h,if_false] <;> omega
theorem Fl (its:List Value) (lo hi:Option Int):slicePick its.toArray lo hi none=((its.drop (HT.je its.length 0 lo)).take (HT.je its.length its.length hi - HT.je its.length 0 lo)).toArray:=by
 obtain⟨h1,h2,h3⟩:=Hz lo hi its.toArray.size
 unfold slicePick
 rw [h1,h2,h3]
 simp only [sliceRange_one,pick_run,List.size_toArray] <;> rfl
def apv (K:PySem.W.Frag):V→Option Int→Option Int→Hp→VK→Prop:=fun x lo hi H Q=>∃ a xs,x=.ref a∧cB K H a xs∧∀ p,H p=none→Q (.ref p) (upd H p (.lst (BZ xs lo hi)))
theorem Wu:vq X (apv X.K):=by
 intro pins s σ H x v vl vu lo hi sl Q I rx hs pl pu h
 obtain⟨a,xs,rfl,hx,q⟩:=h
 cases rx
 obtain⟨its,r,ht,hz⟩:=I.list hx
 have hlen:=r.length
 refine⟨"list",_,slot_list_getitem.lookup,ht.isList.typeIs,?_⟩
 refine wpAny_getItem_list_slice ht.isList hs pl pu .none (by simp) ?_ (by rw [List.size_toArray] <;> omega)
 rw [Fl,← hlen]
 refine⟨.ref s.heap.objs.size,_,I.laid (t':=s.toks) (o:=.lst (BZ xs lo hi)) (fun b ob q=>Heap.get?_push_of_some _ q) (Nat.le_refl _) ?_,rfl,q _ (I.hok.fresh (Nat.le_refl _))⟩
 exact⟨Nat.le_trans (zf xs lo hi) hz,_,0,(r.drop (HT.je xs.length 0 lo)).take (HT.je xs.length xs.length hi - HT.je xs.length 0 lo),Heap.get?_push_size _ rfl⟩
def iG:V→Bool
 | .non=>true
 | .bl _=>true
 | .int _=>true
 | .str _=>true
 | _=>false
def JP:V→V→Bool
 | .non,.non=>true
 | .bl a,.bl b=>a == b
 | .bl a,.int b=>(if a then 1 else 0) == b
 | .int a,.bl b=>a == (if b then 1 else 0)
 | .int a,.int b=>a == b
 | .str a,.str b=>a == b
 | _,_=>false
theorem RP {A:Around}{s:Shared}{y x:V}{u v:Value} (ry:RelV y u) (rx:RelV x v) (fy:iG y=true) (fx:iG x=true):SeqAt.EqAt A s u v (JP y x):=by
 cases y with
 | non =>
   cases ry
   cases x with
   | non=>cases rx;exact SeqAt.EqAt.same _
   | bl b=>cases rx;exact SeqAt.EqAt.none_bool b
   | int b=>obtain⟨t,rfl⟩:=rx;exact SeqAt.EqAt.none_int b t
   | str b=>obtain⟨t,rfl⟩:=rx;exact SeqAt.EqAt.none_str b t
   | _=>exact absurd (show false=true from fx) Bool.false_ne_true
 | bl a =>
   cases ry
   cases x with
   | non=>cases rx;exact SeqAt.EqAt.bool_none a
   | bl b=>cases rx;exact SeqAt.EqAt.bool_bool a b
   | int b=>obtain⟨t,rfl⟩:=rx;exact SeqAt.EqAt.bool_int a b t
   | str b=>obtain⟨t,rfl⟩:=rx;exact SeqAt.EqAt.bool_str a b t
   | _=>exact absurd (show false=true from fx) Bool.false_ne_true
 | int a =>
   obtain⟨t',rfl⟩:=ry
   cases x with
   | non=>cases rx;exact SeqAt.EqAt.int_none a t'
   | bl b=>cases rx;exact SeqAt.EqAt.int_bool a t' b
   | int b=>obtain⟨t,rfl⟩:=rx;exact SeqAt.EqAt.int_int a t' b t
   | str b=>obtain⟨t,rfl⟩:=rx;exact SeqAt.EqAt.int_str a t' b t
   | _=>exact absurd (show false=true from fx) Bool.false_ne_true
 | str a =>
   obtain⟨t',rfl⟩:=ry
   cases x with
   | non=>cases rx;exact SeqAt.EqAt.str_none a t'
   | bl b=>cases rx;exact SeqAt.EqAt.str_bool a t' b
   | int b=>obtain⟨t,rfl⟩:=rx;exact SeqAt.EqAt.str_int a t' b t
   | str b=>obtain⟨t,rfl⟩:=rx;exact SeqAt.EqAt.str_str a t' b t
   | _=>exact absurd (show false=true from fx) Bool.false_ne_true
 | _=>exact absurd (show false=true from fy) Bool.false_ne_true
def RQ (x:V) (u:Value):Bool:=match u with
 | .none=>JP .non x
 | .bool b=>JP (.bl b) x
 | .int i _=>JP (.int i) x
 | .str z _=>JP (.str z) x
 | _=>false
theorem My {x y:V}{u:Value} (r:RelV y u) (f:iG y=true):RQ x u=JP y x:=by
 cases y with
 | non=>cases r;rfl
 | bl b=>cases r;rfl
 | int i=>obtain⟨t,rfl⟩:=r;rfl
 | str z=>obtain⟨t,rfl⟩:=r;rfl
 | _=>exact absurd (show false=true from f) Bool.false_ne_true
theorem HB {x:V}:∀ {xs:List V}{us:List Value},Vals xs us→xs.all iG=true→us.any (RQ x)=xs.any fun y=>JP y x
 | _,_,.nil,_=>rfl
 | y::xs,u::us,.cons r t,f=>by
   rw [List.all_cons,Bool.and_eq_true] at f
   rw [List.any_cons,List.any_cons,My r f.1,HB t f.2]
theorem vy {A:Around}{s:Shared}{x:V}{v:Value} (rx:RelV x v) (fx:iG x=true):∀ {xs:List V}{us:List Value},Vals xs us→xs.all iG=true→∀ u∈us,SeqAt.EqAt A s u v (RQ x u)
 | _,_,.nil,_=>fun u hu=>by cases hu
 | y::xs,u::us,.cons r t,f=>fun u' hu=>by
   rw [List.all_cons,Bool.and_eq_true] at f
   rcases List.mem_cons.mp hu with rfl | hu
   · rw [My r f.1];exact RP r rx f.1 fx
   · exact vy rx fx t f.2 u' hu
def inV (x:V) (xs:List V):Bool:=xs.any fun y=>JP y x
def rIn (K:PySem.W.Frag) (neg:Bool):R2:=fun x y H Q=>∃ p xs,y=.ref p∧(cB K H p xs∨eY K H p xs)∧iG x=true∧xs.all iG=true∧Q (.bl (if neg then !inV x xs else inV x xs)) H
theorem GK:jc X (compareOp .In) (rIn X.K false):=by
 intro pins s σ H x y v u Q I rx ry h
 obtain⟨p,xs,rfl,hq,fx,fs,q⟩:=h
 cases ry
 rcases hq with hq | hq
 · obtain⟨its,r,pl,hz⟩:=I.list hq
   refine SeqAt.in_listAt (RQ x) pl.isList (fun w hw=>vy rx fx r fs w (by simpa using hw)) ⟨.bl _,H,I,rfl,?_⟩
   rw [show its.toArray.any (RQ x)=its.any (RQ x) by simp,HB r fs]
   exact q
 · obtain⟨its,r,pl,hz⟩:=I.tuple hq
   refine SeqAt.in_tupleAt (RQ x) pl (fun w hw=>vy rx fx r fs w (by simpa using hw)) ⟨.bl _,H,I,rfl,?_⟩
   rw [show its.toArray.any (RQ x)=its.any (RQ x) by simp,HB r fs]
   exact q
theorem zZ:cQ X (.builtin "len") (fun xs H Q=>∃ p ys,xs=[.ref p]∧(cB X.K H p ys∨eY X.K H p ys)∧Q (.int ys.length) H):=by
 intro pins s σ H xs us Q I r h
 obtain⟨p,ys,rfl,hq,q⟩:=h
 obtain⟨u,rfl,rx⟩:=vals1 r
 cases rx
 have hn:=BR
 rcases hq with hq | hq
 · obtain⟨its,r',pl,hz⟩:=I.list hq
   have hlen:=r'.length
   exact Calls.call_len_list pl.isList (by simp only [List.size_toArray] <;> omega) ⟨.int ys.length,H,I.tok _,⟨s.toks+1,by rw [List.size_toArray,hlen]⟩,q⟩
 · obtain⟨its,r',pl,hz⟩:=I.tuple hq
   have hlen:=r'.length
   exact len_tuple pl (by simp only [List.size_toArray] <;> omega) ⟨.int ys.length,H,I.tok _,⟨s.toks+1,by rw [List.size_toArray,hlen]⟩,q⟩
theorem cQ.or {f:Value}{r r':List V→Hp→VK→Prop} (h:cQ X f r) (h':cQ X f r'):cQ X f (fun xs H Q=>r xs H Q∨r' xs H Q):=by
 intro pins s σ H xs us Q I rs q
 rcases q with q | q
 · exact h pins s σ H xs us Q I rs q
 · exact h' pins s σ H xs us Q I rs q
theorem xQ:cQ X (.type "list") (fun xs H Q=>∃ p ys,xs=[.ref p]∧(cB X.K H p ys∨eY X.K H p ys)∧∀ l,H l=none→Q (.ref l) (upd H l (.lst ys))):=by
 intro pins s σ H xs us Q I r h
 obtain⟨p,ys,rfl,hq,q⟩:=h
 obtain⟨u,rfl,rx⟩:=vals1 r
 cases rx
 have fin:∀ (its:List Value),Vals ys its→ys.length≤sizeLine→∀ (h':Heap) (c':Nat),(∀ b o',s.heap.get? b=some o'→h'.get? b=some o') →
     h'.get? s.heap.objs.size=some { cls:=.type "list",dict:=none,data:=.seq its.toArray c',slots:=#[] }→EP X pins σ Q (.ref s.heap.objs.size) { s with heap:=h' }:=fun its r' hz h' c' kp e =>
   ⟨.ref s.heap.objs.size,_,I.laid (t':=s.toks) kp (Nat.le_refl _) (show cD X.prog X.w _ h' _ (.lst ys) from ⟨hz,its,c',r',e⟩),rfl,q _ (I.hok.fresh (Nat.le_refl _))⟩
 rcases hq with hq | hq
 · obtain⟨its,r',pl,hz⟩:=I.list hq
   have hlen:=r'.length
   obtain⟨o,ho,hc,n,hd⟩:=pl.isList
   exact call_list_seq p (.inl rfl) ho hc hd (fun h' c' kp e=>fin its r' hz h' c' kp e) (by simp only [List.size_toArray] <;> omega)
 · obtain⟨its,r',pl,hz⟩:=I.tuple hq
   have hlen:=r'.length
   obtain⟨o,ho,hc,n,hd⟩:=pl
   exact call_list_seq p (.inr rfl) ho hc hd (fun h' c' kp e=>fin its r' hz h' c' kp e) (by simp only [List.size_toArray] <;> omega)
def tyV (K:PySem.W.Frag) (T:String) (x:V) (H:Hp):Prop:=match x with
 | .str _=>T="str"
 | .int _=>T="int"
 | .ref p=>(T="list"∧∃ xs,cB K H p xs)∨(T="tuple"∧∃ o,K.lookup p=some o∧o.cls=.type "tuple"∧o.dict=none) ∨
     (T="dict"∧((∃ kvs,H p=some (.dK kvs))∨∃ kvs,H p=some (.dT kvs)))∨(T="set"∧∃ S n,H p=some (.set S n))
 | _=>False
theorem ZX {pins:List (Addr × Obj)}{σ:St}{H:Hp}{s:Shared}{T:String}{x:V}{v:Value} (I:Inv X pins σ H s) (r:RelV x v) (ty:tyV X.K T x H) :
   s.TypeIs v T∧∀ a,v=.ref a→∃ ob,s.heap.get? a=some ob∧ob.dict=none:=by
 cases x with
 | str z =>
   obtain⟨t,rfl⟩:=r
   cases (show T="str" from ty)
   exact⟨typeIs_str s z t,fun _ e=>nomatch e⟩
 | int i =>
   obtain⟨t,rfl⟩:=r
   cases (show T="int" from ty)
   exact⟨typeIs_int s i t,fun _ e=>nomatch e⟩
 | ref p =>
   cases r
   rcases ty with ⟨rfl,xs,hq⟩ | ⟨rfl,o,hk,hc,hd⟩ | ⟨rfl,hk⟩ | ⟨rfl,S,n,hk⟩
   · obtain⟨its,_,pl,_⟩:=I.list hq
     refine⟨pl.isList.typeIs,fun a e=>?_⟩
     cases e
     obtain⟨o,n,e,c,hd,_⟩:=pl
     exact⟨o,e,hd⟩
   · refine⟨⟨o,I.By p o hk,hc⟩,fun a e=>?_⟩
     cases e
     exact⟨o,I.By _ o hk,hd⟩
   · have z:∃ o,s.heap.get? p=some o∧o.ExactDict:=by
       rcases hk with ⟨kvs,hk⟩ | ⟨kvs,hk⟩
       · obtain⟨_,_,_,_,o,_,_,e,ex,_⟩:=I.hok p _ hk
         exact⟨o,e,ex⟩
       · obtain⟨_,_,_,_,o,_,_,e,ex,_⟩:=I.hok p _ hk
         exact⟨o,e,ex⟩
     obtain⟨o,e,ex⟩:=z
     refine⟨⟨o,e,ex.1⟩,fun a e2=>?_⟩
     cases e2
     exact⟨o,e,ex.2.1⟩
   · obtain⟨o,_,_,_,e,ex,_⟩:=I.hok p _ hk
     refine⟨⟨o,e,ex.1⟩,fun a e2=>?_⟩
     cases e2
     exact⟨o,e,ex.2.1⟩
 | _=>exact False.elim ty
def tBM (K:PySem.W.Frag) (T:String) (r:V→List V→Hp→VK→Prop) (to:TE) (t:TA):TE:=fun σ H Q=>to σ H fun x H1=>tyV K T x H1∧t σ H1 fun xs H2=>r x xs H2 Q
variable {o e:Expr}{es:List Expr}{to:TE}{t:TA}{name:Str}{apos cpos:Pos}{T id:String}{r:V→List V→Hp→VK→Prop}
theorem kO (pa:PlainAttrs T) (slot:Slot T name id) (hty:typeOf (.builtin id)=pure (.type "method_descriptor")) (hm:MtR X id r) (ho:PE X o to) (ha:PA X (e::es) t)
   (hbase:attributeBase o name X.env (eval o X.env)=eval o X.env:=by rfl)
   (hfew:((backTo cpos (starEach (e::es) X.env)).all (fun x=>!x.1) && (backToKw cpos (keywordEach [] X.env)).all (fun x=>x.1.isSome)
     && decide ((e::es).length+([]:List Keyword).length+(if ([]:List Keyword).isEmpty then 0 else 1)<30))=true:=by rfl)
   (hline:(apos.endLine == cpos.line)=true:=by rfl) (hs:starEach (e::es) X.env=(false,eval e X.env)::starEach es X.env:=by rfl) (hplain:(backTo cpos (starEach es X.env)).any (·.1)=false:=by rfl) :
   PE X (.Call (.Attribute o name apos) (e::es) [] cpos) (tBM X.K T r to t):=by
 intro pins s σ H Q I h
 refine wpAny_Call_method_late hbase hfew hline rfl (dO (ho pins s σ H _ I h) fun v s1 zq=>?_)
 obtain⟨x,H1,I1,r1,ty,q1⟩:=zq
 obtain⟨h1,h2⟩:=ZX I1 r1 ty
 refine⟨T,id,pa,slot,hty,h1,h2,?_⟩
 have hA:=ha cpos pins s1 σ H1 _ I1 q1
 rw [hs] at hA ⊢
 refine Calls.callWith_builtin (by show (false || (backTo cpos (starEach es X.env)).any (·.1))=false;rw [hplain] <;> rfl) (Calls.evalArgs_plain ?_)
 exact dO hA fun us s2 ⟨vs,H2,I2,r2,q2⟩=>hm pins s2 σ H2 x vs v us Q I2 r1 r2 q2
end
end L2
namespace L2
open PySem PySem.Spec PyProof.Rows
def MtM (X:Cx) (id:String) (r:V→List V→Hp→VK→Prop):Prop :=
 ∀ (pins:List (Addr × Obj)) (s:Shared) (σ:St) (H:Hp) (x:V) (xs:List V) (v:Value) (us:List Value) (Q:VK),Inv X pins σ H s→RelV x v→Vals xs us→r x xs H Q →
   wpAny (model X.prog X.w) X.A (call (.builtin id) (v::us)) (EP X pins σ Q) X.xe s
theorem Vals.one:∀ {x:V}{us:List Value},Vals [x] us→∃ u,us=[u]∧RelV x u
 | _,_,.cons r .nil=>⟨_,rfl,r⟩
theorem Vals.zero:∀ {us:List Value},Vals [] us→us=[]
 | _,.nil=>rfl
theorem Vals.reverse {xs:List V}{us:List Value} (h:Vals xs us):Vals xs.reverse us.reverse:=by
 induction h with
 | nil=>exact .nil
 | cons r t ih=>rw [List.reverse_cons,List.reverse_cons];exact Vals.append ih (.cons r .nil)
section
variable {X:Cx}{pins:List (Addr × Obj)}{σ:St}{H:Hp}{s:Shared}{l b:Addr}{xs ys zs:List V}
theorem Inv.ady {its its':List Value}{n:Nat}{f:Array Value→Array Value}{t':Nat} (I:Inv X pins σ H s) (hH:H l=some (.lst xs))
   (e:s.heap.get? l=some { cls:=.type "list",data:=.seq its.toArray n }) (hf:f its.toArray=its'.toArray) (hv:Vals ys its') (hz:ys.length≤sizeLine) :
   Inv X pins σ (upd H l (.lst ys)) { s with heap:=s.heap.update l (Obj.mapSeq f),toks:=t' }:=by
 have q:=PySem.IsL.update e f
 rw [hf] at q
 refine I.write (x:=l) (e:=l) (by rw [hH];exact trivial) (.inl rfl) (fun b' u hb hu=>(Heap.get?_update_other s.heap (Obj.mapSeq f) (Ne.symm hb)).trans hu) ⟨_,q⟩ ?_
 exact⟨hz,its',_,hv,q⟩
theorem Inv.apx {its:List Value}{t':Nat} (I:Inv X pins σ H s) (hv:Vals ys its) (hz:ys.length≤sizeLine) :
   Inv X pins σ (upd H s.heap.objs.size (.lst ys)) { s with heap:=s.heap.push { cls:=.type "list",data:=.seq its.toArray },toks:=t' } :=
 I.laid (fun _ _ q=>Heap.get?_push_of_some _ q) (Nat.le_refl _) ⟨hz,its,0,hv,Heap.get?_push_size _ rfl⟩
theorem Inv.fresh (I:Inv X pins σ H s):H s.heap.objs.size=none:=I.hok.fresh (Nat.le_refl _)
theorem Inv.RT (I:Inv X pins σ H s) (hH:H l=some (.lst xs)):xs.length≤sizeLine∧∃ (its:List Value) (n:Nat),Vals xs its∧xs.length=its.length∧s.heap.get? l=some { cls:=.type "list",data:=.seq its.toArray n }:=by
 obtain⟨z,its,n,r,e⟩:=I.hok l _ hH
 exact⟨z,its,n,r,r.length,e⟩
theorem RV {n:Nat} (h:n≤sizeLine):Builtin.List.listTooLong n=false:=by
 unfold Builtin.List.listTooLong
 exact decide_eq_false (by omega)
end
section
variable {X:Cx}
def Wv:V→List V→Hp→VK→Prop:=fun x vs H Q=>∃ l xs y,x=.ref l∧vs=[y]∧H l=some (.lst xs)∧xs.length<sizeLine∧Q .non (upd H l (.lst (xs++[y])))
theorem yR:MtM X "list.append" Wv:=by
 intro pins s σ H x vs v us Q I rx rv h
 obtain⟨l,xs,y,rfl,rfl,hH,hz,q⟩:=h
 cases rx
 obtain⟨u,rfl,ru⟩:=rv.one
 obtain⟨z,its,n,r,hl,e⟩:=I.RT hH
 refine call_meets F.slot_list_append ⟨_,e,rfl⟩ F.entry_list_append (F.args_list_append_2 _ _) (PySem.list_append l its.toArray n u (by rw [List.size_toArray];omega)) ⟨e,?_⟩
 refine⟨.non,_,I.ady (its':=its++[u]) hH e (by simp) (r.append (.cons ru .nil)) ?_,rfl,q⟩
 rw [List.length_append,List.length_singleton]
 omega
def Ww:V→List V→Hp→VK→Prop:=fun x vs H Q=>∃ l b xs zs,x=.ref l∧vs=[.ref b]∧H l=some (.lst xs)∧H b=some (.lst zs)∧xs.length+zs.length≤sizeLine∧Q .non (upd H l (.lst (xs++zs)))
theorem QB:MtM X "list.extend" Ww:=by
 intro pins s σ H x vs v us Q I rx rv h
 obtain⟨l,b,xs,zs,rfl,rfl,hH,hB,hz,q⟩:=h
 cases rx
 obtain⟨u,rfl,ru⟩:=rv.one
 cases ru
 obtain⟨z,its,n,r,hl,e⟩:=I.RT hH
 obtain⟨z2,its2,n2,r2,hl2,e2⟩:=I.RT hB
 have hsz:its.toArray.size+its2.toArray.size≤sizeLine:=by rw [List.size_toArray,List.size_toArray];omega
 have adz:¬ (!its.toArray.isEmpty && Builtin.List.listTooLong (its.toArray.size+its2.toArray.size))=true:=by
   rw [RV hsz,Bool.and_false]
   exact Bool.false_ne_true
 refine call_meets F.slot_list_extend ⟨_,e,rfl⟩ F.entry_list_extend (F.args_list_extend_2 _ _)
   (AutoSeq1.list_extend_list_list_0 l its.toArray n b its2.toArray n2 adz (by rw [List.size_toArray];omega) (by omega)) ⟨e,e2,?_⟩
 refine⟨.non,_,I.ady (its':=its++its2) hH e (by simp) (r.append r2) ?_,rfl,q⟩
 rw [List.length_append]
 omega
def apy:R2:=fun x y H Q=>∃ l b xs zs,x=.ref l∧y=.ref b∧H l=some (.lst xs)∧H b=some (.lst zs)∧xs.length+zs.length≤sizeLine∧∀ p,H p=none→Q (.ref p) (upd H p (.lst (xs++zs)))
theorem RW:jc X (binaryOp .Add) apy:=by
 intro pins s σ H x y v u Q I rx ry h
 obtain⟨l,b,xs,zs,rfl,rfl,hH,hB,hz,q⟩:=h
 cases rx
 cases ry
 obtain⟨z,its,n,r,hl,e⟩:=I.RT hH
 obtain⟨z2,its2,n2,r2,hl2,e2⟩:=I.RT hB
 refine PySem.P.add_list e e2 ?_ (by rw [List.size_toArray,List.size_toArray];omega)
 have ea:its.toArray++its2.toArray=(its++its2).toArray:=by simp
 rw [ea]
 exact⟨.ref _,_,I.apx (t':=s.toks) (r.append r2) (by rw [List.length_append];omega),rfl,q _ I.fresh⟩
end
section
variable {prog:Program}{w:World}{A:Around}{E:Value→Shared→Prop}{s:Shared}
end
section
variable {X:Cx}
end
end L2
namespace Att
open PySem PySem.W PySem.Calls PyProof.Rows
theorem Al {P:Params}{h:Heap}:∀ (ns:List Int) (vs:List Value),WellAll P h vs (ns.map WData.int)→IntsAre vs ns:=by
 intro ns
 induction ns with
 | nil =>
   intro vs w
   rw [List.map_nil] at w
   cases w
   exact .nil
 | cons n ns ih =>
   intro vs w
   rw [List.map_cons] at w
   cases w with
   | cons a b =>
     cases a
     exact .cons _ _ (ih _ b)
theorem QC {l:OpenLaw}{n:Nat} (hn:l.most=some n) {P:Params}{h:Heap}{args:List WData}{vals:List Value}
   (hpre:l.row.toRowW.claim.pre args=true) (hwl:WellAll P h vals args) :
   ∃ a vs ns,vals=[Value.ref a]∧args=[WData.list (ns.map WData.int)]∧h.get? a=some { cls:=.type "list",data:=.seq vs.toArray }∧IntsAre vs ns∧ns.length≤n:=by
 have hsh:WShape.hasAll [] args [.list .int]=true:=(pre_splitW hpre).1
 have hc:l.pre.holds [] { args:=args } = true:=(pre_splitW hpre).2
 obtain⟨d,r,rfl,h1,h2⟩:=hasAllW_cons hsh
 obtain rfl:=hasAllW_nil h2
 obtain⟨xs,rfl,h3⟩:=hasW_list h1
 obtain⟨ns,rfl⟩:=items_int h3
 have hlen:ns.length≤n:=by
   unfold OpenLaw.pre at hc
   have h4:(WTm.not (.lt (.lit (.int (n:Int))) (.len (.arg 0)))).holds [] { args:=[.list (ns.map .int)] } = true:=by
     have h4:=(holds_andW hc).1
     rw [hn] at h4
     exact h4
   have h5:=condW_of h4 (w_not (w_lt w_lit (w_len_list (w_arg rfl))))
   rw [List.length_map] at h5
   refine Nat.le_of_not_lt fun q=>?_
   have q':(n:Int)<((ns.length:Nat):Int):=by omega
   first
     | (rw [decide_eq_true q'] at h5;exact absurd h5 (by decide))
     | (simp at h5;omega)
 cases hwl with
 | cons w1 w2 =>
   cases w2
   cases w1 with
   | list ho hall=>exact⟨_,_,ns,rfl,rfl,ho,Al ns _ hall,hlen⟩
theorem QD (l:OpenLaw) (args:List WData):l.row.toRowW.claim.post args (.bool true) args=true :=
 postW_of (r:=l.row.toRowW) (X:=(true == true))
   (show WShape.has [] (.bool true) .bool=true by first | rfl | decide | simp [WShape.has,WShape.arms,WShape.armsAll])
   (show (WTm.eq .res (.lit (.bool true))).value [] { args:=args,res:=some (.bool true),after:=args } = some (.bool (true == true)) from w_eq_bool (w_res rfl) w_lit) rfl
section
variable {prog:Program}{w:World}{A:Around}{E:Value→Shared→Prop}{s:Shared}{K:Frag}
end
end Att
namespace L2
open PySem PySem.Spec PyProof.Rows
theorem GP:∀ {vs:List Value}{ns:List Int},IntsAre vs ns→Vals (ns.map V.int) vs
 | _,_,.nil=>.nil
 | _,_,.cons n t h=>.cons ⟨t,rfl⟩ (GP h)
end L2
namespace L2
open PySem PySem.Spec PyProof.Rows
abbrev KOf {K:PySem.W.Frag}{h:Heap} (_:K.In h):PySem.W.Frag:=K
end L2
namespace L2
open PySem PySem.Spec PyProof.Rows
def inClass (s:Stmt) (j:Nat):Stmt:=match s with
 | .ClassDef _ _ _ body _ _ _ _ _ _ _=>body.getD j (.Pass ⟨0,0,0,0⟩)
 | _=>.Pass ⟨0,0,0,0⟩
def ak (s:Stmt):Arguments:=match s with
 | .FunctionDef _ a _ _ _ _ _ _ _ _=>a
 | _=>{ posonlyargs:=[],args:=[],vararg:=none,kwonlyargs:=[],kw_defaults:=[],kwarg:=none,defaults:=[] }
def aj (s:Stmt):List Stmt:=match s with
 | .FunctionDef _ _ b _ _ _ _ _ _ _=>b
 | _=>[]
def aa (s:Stmt):Scope:=match s with
 | .FunctionDef _ _ _ _ _ _ sc _ _ _=>sc
 | _=>{ kind:=.function,names:=[],isGenerator:=false,isCoroutine:=false }
abbrev bR:Ff:=fun _ _ _ _ _ _=>False
abbrev E0:XK:=fun _ _ _=>False
theorem zN {X:Cx}:Passes bR X E0:=fun _ _ _ _ _ _ _ h=>h.elim
structure fV (K:PySem.W.Frag) (x qual:Str) (st:Stmt) (f:Addr) (fd:FuncData):Prop where
 ex:∃ (oc:Value) (od:Option Addr) (kV doc pm:Value) (an:Option Addr) (cdv ct:Value) (osl:Array (Option Value)),
   fd=PySem.W.fnOf x qual (ak st) (aj st) (aa st) .none kV doc pm an cdv ct∧K.lookup f=some ⟨oc,od,.func fd,osl⟩∧PySem.W.codeIn K cdv qual=true
 kp:PySem.W.keepIn K (.ref f)=true
section
variable {P:Program}{w:World}{K:PySem.W.Frag}{mg:Str→Option Value}{base:Heap}
theorem fV.ok {x qual:Str}{st:Stmt}{f:Addr}{fd:FuncData}{N ps:List Str}{k:Nat}{sp:Sp} (F:fV K x qual st f fd) (S:au N ps (aa st)) (len:∀ vs H Q E,sp vs H Q E→vs.length=ps.length)
   (hbody:∀ (cdv:Value) (A:Around) (outer:List Env) (s:Shared) (H:Hp) (vs:List V) (Q:VK) (E:XK),fc k (A.deeper (envOfC qual (aa st) s.heap.objs.size f cdv))→sp vs H Q E →
     ∃ t,o6 (JH bR P w K mg base N qual (aa st) f cdv A outer s H E).Fd (aj st) t∧t { nx:=fun _ H'=>Q .non H',rt:=Q } (start N vs) H):aV P w K mg base bR (k+1) f fd ps sp:=by
 obtain⟨oc,od,kV,doc,pm,an,cdv,ct,osl,rfl,lk,hcd⟩:=F.ex
 refine RJ lk hcd S len fun A outer s H vs Q E hr hsp=>?_
 obtain⟨t,h,q⟩:=hbody cdv A outer s H vs Q E hr hsp
 exact⟨t,h.Fd,q⟩
theorem fV.binds {x qual:Str}{st:Stmt}{f:Addr}{fd:FuncData}{ps:List Str} (F:fV K x qual st f fd)
   (h:∀ (kV doc pm:Value) (an:Option Addr) (cdv ct:Value) (us:List Value),us.length=ps.length→bindArgs (PySem.W.fnOf x qual (ak st) (aj st) (aa st) .none kV doc pm an cdv ct) ⟨us,[]⟩=pure (ps.zip us)):Binds K fd ps []:=by
 obtain⟨oc,od,kV,doc,pm,an,cdv,ct,osl,rfl,lk,hcd⟩:=F.ex
 exact .all (h kV doc pm an cdv ct)
theorem ao {x qual:Str}{st:Stmt}{f:Addr}{oc:Value}{od an:Option Addr}{osl:Array (Option Value)}{kV doc pm cdv ct:Value} (l:K.lookup f=some ⟨oc,od,.func (PySem.W.fnOf x qual (ak st) (aj st) (aa st) .none kV doc pm an cdv ct),osl⟩)
   (c:PySem.W.codeIn K cdv qual=true) (k:PySem.W.keepIn K (.ref f)=true):fV K x qual st f (PySem.W.fnOf x qual (ak st) (aj st) (aa st) .none kV doc pm an cdv ct):=⟨⟨oc,od,kV,doc,pm,an,cdv,ct,osl,rfl,l,c⟩,k⟩
end
theorem xM {A:Around}{k:Nat} (hr:fc k A):A.units+1<cLine:=Nat.lt_of_le_of_lt (Nat.add_le_add_left (by decide:1≤64) _) hr.units
section
variable {X:Cx}
theorem pv (i:Nat) {x:Str}{pos:Pos} (hN:X.N[i]? = some x:=by rfl) (hv:Vis X.env.scope x:=by first | exact Or.inl rfl | exact Or.inr (Or.inl rfl) | exact Or.inr (Or.inr rfl)) (hd:(x == ("__debug__":Str))=false:=by decide)
   (hcd:(x == ("__classdict__":Str))=false:=by decide):PE X (.Name x pos) (mX i):=Zz hN hv hd hcd
end
theorem aN {A B:Prop} (h:B):if false=true then A else B:=by
 rw [if_neg Bool.false_ne_true]
 exact h
theorem bT {A B:Prop} (h:A):if true=true then A else B:=by
 rw [if_pos rfl]
 exact h
theorem lq {c A B:Prop} [Decidable c] (h1:c→A) (h2:¬ c→B):if c then A else B:=by
 by_cases h:c
 · rw [if_pos h]
   exact h1 h
 · rw [if_neg h]
   exact h2 h
def aB (H H':Hp):Prop:=∀ b o,H b=some o→H' b=some o
theorem aB.refl (H:Hp):aB H H:=fun _ _ h=>h
theorem aB.trans {H H1 H2:Hp} (a:aB H H1) (b:aB H1 H2):aB H H2:=fun c o h=>b c o (a c o h)
theorem aB.free {H H':Hp} (e:aB H H') {l:Addr} (h:H' l=Option.none):H l=Option.none:=by
 cases q:H l with
 | none=>rfl
 | some o =>
   rw [e l o q] at h
   cases h
theorem aB.seq {K:PySem.W.Frag}{H H':Hp}{a:Addr}{xs:List V} (e:aB H H') (h:cB K H a xs):cB K H' a xs:=by
 rcases h with (h | ⟨o,h⟩) | h
 · exact .inl (.inl (e _ _ h))
 · exact .inl (.inr ⟨o,e _ _ h⟩)
 · exact .inr h
end L2
namespace L2
open PySem PySem.Spec PyProof.Rows
section
variable {κ:Type} [DecidableEq κ]
def eU (kvs:List (κ × V)) (k:κ):Option V:=(kvs.find? fun kv=>decide (kv.1=k)).map (·.2)
def putK (kvs:List (κ × V)) (k:κ) (v:V):List (κ × V) :=
 if (kvs.any fun kv=>decide (kv.1=k))=true then kvs.map (fun kv=>if kv.1=k then (kv.1,v) else kv) else kvs++[(k,v)]
def Yt (kvs:List (κ × V)) (k:κ):List (κ × V):=kvs.filter fun kv=>decide (kv.1≠k)
theorem yZ {p:κ × V}{r:List (κ × V)}{k:κ} (e:p.1=k):eU (p::r) k=some p.2:=by simp [eU,List.find?_cons,e]
theorem xB {p:κ × V}{r:List (κ × V)}{k:κ} (e:¬ p.1=k):eU (p::r) k=eU r k:=by simp [eU,List.find?_cons,e]
theorem vz (k:κ):∀ kvs:List (κ × V),(kvs.any fun kv=>decide (kv.1=k))=(eU kvs k).isSome
 | []=>rfl
 | p::r=>by
   rw [List.any_cons]
   by_cases e:p.1=k
   · simp only [yZ e,decide_eq_true e,Bool.true_or,Option.isSome_some]
   · rw [xB e,decide_eq_false e,Bool.false_or];exact vz k r
theorem JQ (k j:κ) (y:V):∀ kvs:List (κ × V),eU (kvs.map fun kv=>if kv.1=k then (kv.1,y) else kv) j=(eU kvs j).map fun x=>if j=k then y else x
 | []=>rfl
 | p::r=>by
   have ih:=JQ k j y r
   rw [List.map_cons]
   by_cases h:p.1=k
   · rw [if_pos h]
     by_cases e:p.1=j
     · rw [yZ (p:=(p.1,y)) e,yZ e,Option.map_some,if_pos (e.symm.trans h)]
     · rw [xB (p:=(p.1,y)) e,xB e,ih]
   · rw [if_neg h]
     by_cases e:p.1=j
     · rw [yZ (p:=p) e,yZ e,Option.map_some,if_neg (fun z=>h (e.trans z))]
     · rw [xB (p:=p) e,xB e,ih]
theorem GQ (k j:κ) (y:V):∀ kvs:List (κ × V),eU kvs k=none→eU (kvs++[(k,y)]) j=if j=k then some y else eU kvs j
 | [],_=>by
   by_cases e:k=j
   · rw [if_pos e.symm];exact yZ (p:=(k,y)) e
   · rw [if_neg (fun z=>e z.symm)];exact xB (p:=(k,y)) e
 | p::r,hn=>by
   rw [List.cons_append]
   have hk:¬ p.1=k:=fun z=>by rw [yZ z] at hn;cases hn
   rw [xB hk] at hn
   have ih:=GQ k j y r hn
   by_cases e:p.1=j
   · rw [yZ e,yZ e,if_neg (fun z=>hk (e.trans z))]
   · rw [xB e,xB e,ih]
theorem lL (kvs:List (κ × V)) (k j:κ) (y:V):eU (putK kvs k y) j=if j=k then some y else eU kvs j:=by
 unfold putK
 by_cases a:(kvs.any fun kv=>decide (kv.1=k))=true
 · rw [if_pos a,JQ]
   rw [vz] at a
   by_cases e:j=k
   · obtain⟨x,hx⟩:=Option.isSome_iff_exists.mp a
     rw [if_pos e,e,hx,Option.map_some,if_pos rfl]
   · rw [if_neg e]
     cases eU kvs j with
     | none=>rfl
     | some x=>rw [Option.map_some,if_neg e]
 · rw [if_neg a]
   refine GQ k j y kvs ?_
   rw [vz] at a
   cases q:eU kvs k with
   | none=>rfl
   | some x=>rw [q] at a;exact (a rfl).elim
theorem xD (kvs:List (κ × V)) (k:κ) (v:V):(putK kvs k v).length≤kvs.length+1:=by
 unfold putK
 split
 · rw [List.length_map];omega
 · rw [List.length_append,List.length_cons,List.length_nil];omega
theorem qp.oM {o:Option V}{u:Option Value} (r:qp o u):o.isSome=u.isSome:=by
 cases o with
 | none=>cases u with
   | none=>rfl
   | some _=>exact (show False from r).elim
 | some _=>cases u with
   | none=>exact (show False from r).elim
   | some _=>rfl
theorem qp.getD {o:Option V}{u:Option Value}{d:V}{d':Value} (r:qp o u) (rd:RelV d d'):RelV (o.getD d) (u.getD d'):=by
 cases o with
 | none=>cases u with
   | none=>exact rd
   | some _=>exact (show False from r).elim
 | some _=>cases u with
   | none=>exact (show False from r).elim
   | some _=>exact r
theorem KV.val {kvs:List (κ × V)}{vs:List (κ × Value)} (r:KV kvs vs) (k:κ):qp (eU kvs k) (valueAt vs k):=by
 unfold KV at r
 induction r with
 | nil=>exact True.intro
 | @cons p q ps qs h t ih =>
   obtain⟨h1,h2⟩:=h
   by_cases e:p.1=k
   · have e':q.1=k:=h1.symm.trans e
     have b:valueAt (q::qs) k=some q.2:=by simp [valueAt,List.find?_cons,e']
     rw [yZ e,b];exact h2
   · have e':¬ q.1=k:=fun z=>e (h1.trans z)
     have b:valueAt (q::qs) k=valueAt qs k:=by simp [valueAt,List.find?_cons,e']
     rw [xB e,b];exact ih
theorem KV.any {kvs:List (κ × V)}{vs:List (κ × Value)} (r:KV kvs vs) (k:κ):(kvs.any fun kv=>decide (kv.1=k))=vs.any fun kv=>decide (kv.1=k):=by
 unfold KV at r
 induction r with
 | nil=>rfl
 | cons h t ih=>rw [List.any_cons,List.any_cons,ih,h.1]
theorem KV.repl {kvs:List (κ × V)}{vs:List (κ × Value)} (r:KV kvs vs) (k:κ) {y:V}{u:Value} (ry:RelV y u) :
   KV (kvs.map fun kv=>if kv.1=k then (kv.1,y) else kv) (vs.map fun kv=>if kv.1=k then (kv.1,u) else kv):=by
 unfold KV at r ⊢
 induction r with
 | nil=>exact .nil
 | @cons p q ps qs h t ih =>
   rw [List.map_cons,List.map_cons]
   refine .cons ?_ ih
   obtain⟨h1,h2⟩:=h
   by_cases e:p.1=k
   · rw [if_pos e,if_pos (h1.symm.trans e)];exact⟨h1,ry⟩
   · rw [if_neg e,if_neg (fun z=>e (h1.trans z))];exact⟨h1,h2⟩
theorem KV.put {kvs:List (κ × V)}{vs:List (κ × Value)} (r:KV kvs vs) (k:κ) {y:V}{u:Value} (ry:RelV y u):KV (putK kvs k y) (stored vs k u):=by
 unfold putK stored
 rw [r.any k]
 by_cases e:(vs.any fun kv=>decide (kv.1=k))=true
 · rw [if_pos e,if_pos e];exact r.repl k ry
 · rw [if_neg e,if_neg e];exact Paired.snoc r ⟨rfl,ry⟩
theorem KV.drop {kvs:List (κ × V)}{vs:List (κ × Value)} (r:KV kvs vs) (k:κ):KV (Yt kvs k) (without vs k):=by
 unfold KV at r ⊢
 unfold Yt without
 induction r with
 | nil=>exact .nil
 | @cons p q ps qs h t ih =>
   obtain⟨h1,h2⟩:=h
   rw [List.filter_cons,List.filter_cons]
   by_cases e:p.1=k
   · have a:¬ decide (p.1≠k)=true:=by simp [e]
     have b:¬ decide (q.1≠k)=true:=by simp [h1.symm.trans e]
     rw [if_neg a,if_neg b];exact ih
   · have e':¬ q.1=k:=fun z=>e (h1.trans z)
     have a:decide (p.1≠k)=true:=by simp [e]
     have b:decide (q.1≠k)=true:=by simp [e']
     rw [if_pos a,if_pos b];exact .cons ⟨h1,h2⟩ ih
theorem KV.keys {kvs:List (κ × V)}{vs:List (κ × Value)} (r:KV kvs vs):kvs.map (·.1)=vs.map (·.1):=by
 unfold KV at r
 induction r with
 | nil=>rfl
 | cons h t ih=>rw [List.map_cons,List.map_cons,ih,h.1]
theorem KV.length {kvs:List (κ × V)}{vs:List (κ × Value)} (r:KV kvs vs):kvs.length=vs.length:=Paired.length r
end
theorem Ca {P:Program}{w:World}{k:Key}{u:Value} (r:RelV (kV k) u):(cz P w).is k u=true:=by
 cases k with
 | inl i=>obtain⟨t,e⟩:=(show ∃ t,u=Value.int i t from r);subst e;exact Jy P w i t
 | inr x=>obtain⟨t,e⟩:=(show ∃ t,u=Value.str x t from r);subst e;exact Jz P w x t
theorem GR {P:Program}{w:World}:∀ {ks:List Key}{us:List Value},Vals (ks.map kV) us→ItemsAre (cz P w) ks us
 | [],_,r=>by rw [List.map_nil] at r;cases r;exact .nil
 | k::ks,_,r=>by
   rw [List.map_cons] at r
   cases r with
   | cons h t=>exact .cons (Ca h) (GR t)
abbrev KT (H:Hp):List (List Key × V)→List (List Key × Addr × Value)→Prop:=Paired fun p q=>p.1=q.1∧H q.2.1=some (.tup (p.1.map kV))∧RelV p.2 q.2.2
theorem KT.val {H:Hp}{kvs:List (List Key × V)}{xs:List (List Key × Addr × Value)} (r:KT H kvs xs) (k:List Key):qp (eU kvs k) ((atKey xs k).map (·.2)):=by
 induction r with
 | nil=>exact True.intro
 | @cons p q ps qs h t ih =>
   obtain⟨h1,_,h2⟩:=h
   by_cases e:p.1=k
   · have e':q.1=k:=h1.symm.trans e
     have b:atKey (q::qs) k=some q.2:=by simp [atKey,List.find?_cons,e']
     rw [yZ e,b];exact h2
   · have e':¬ q.1=k:=fun z=>e (h1.trans z)
     have b:atKey (q::qs) k=atKey qs k:=by simp [atKey,List.find?_cons,e']
     rw [xB e,b];exact ih
theorem KT.repl {H:Hp}{kvs:List (List Key × V)}{xs:List (List Key × Addr × Value)} (r:KT H kvs xs) (k:List Key) {y:V}{u:Value} (ry:RelV y u) :
   KT H (kvs.map fun kv=>if kv.1=k then (kv.1,y) else kv) (xs.map (putAt k u)):=by
 induction r with
 | nil=>exact .nil
 | @cons p q ps qs h t ih =>
   rw [List.map_cons,List.map_cons]
   refine .cons ?_ ih
   obtain⟨h1,h2,h3⟩:=h
   unfold putAt
   by_cases e:p.1=k
   · rw [if_pos e,if_pos (h1.symm.trans e)];exact⟨h1,h2,ry⟩
   · rw [if_neg e,if_neg (fun z=>e (h1.trans z))];exact⟨h1,h2,h3⟩
theorem KT.put {H:Hp}{kvs:List (List Key × V)}{xs:List (List Key × Addr × Value)} (r:KT H kvs xs) (k:List Key) {b:Addr}{y:V}{u:Value} (hb:H b=some (.tup (k.map kV))) (ry:RelV y u) :
   KT H (putK kvs k y) (storedH xs k b u):=by
 have e:(kvs.any fun kv=>decide (kv.1=k))=(atKey xs k).isSome:=by
   rw [vz,(r.val k).oM,Option.isSome_map]
 unfold putK storedH
 rw [e]
 by_cases q:(atKey xs k).isSome=true
 · rw [if_pos q,if_pos q];exact r.repl k ry
 · rw [if_neg q,if_neg q];exact Paired.snoc r ⟨rfl,hb,ry⟩
theorem KT.keeps {H H':Hp}{kvs:List (List Key × V)}{xs:List (List Key × Addr × Value)} (r:KT H kvs xs) (ht:∀ b ys,H b=some (.tup ys)→H' b=some (.tup ys)):KT H' kvs xs :=
 Paired.Wb r fun _ _ z=>⟨z.1,ht _ _ z.2.1,z.2.2⟩
section
variable {P:Program}{w:World}{H:Hp}{h:Heap}{a:Addr}
theorem Yu {u:HO} (ok:rT P w H h) (e:Rd H a u):cD P w H h a u:=e.ok ok
theorem zg {kvs:List (Key × V)} (ok:rT P w H h) (e:Rd H a (.dK kvs)):kvs.length≤sizeLine∧(a == sysModules)=false∧∃ vs,KV kvs vs∧h.DictOf (cz P w) a vs :=
 show cD P w H h a (.dK kvs) from Yu ok e
theorem adA {kvs:List (Key × V)} (ok:rT P w H h) (e:H a=some (.dK kvs)):kvs.length≤sizeLine∧(a == sysModules)=false∧∃ vs,KV kvs vs∧h.DictOf (cz P w) a vs:=zg ok (.inl e)
theorem qC {ks:List Key} (ok:rT P w H h) (e:H a=some (.tup (ks.map kV))):(tupleKind (cz P w)).is h ks a:=by
 obtain⟨_,its,r,o,h1,h2,n,h3⟩:=(show cD P w H h a (.tup (ks.map kV)) from ok a _ e)
 exact⟨o,its.toArray,n,h1,h2,h3,by simpa using GR r⟩
theorem zj {kvs:List (List Key × V)} (ok:rT P w H h) (e:Rd H a (.dT kvs)):kvs.length≤sizeLine∧(a == sysModules)=false ∧
   ∃ xs,KT H kvs xs∧h.DictOfH (tupleKind (cz P w)) a xs:=by
 obtain⟨z,y,xs,r,o,es,ep,h1,h2,h3,h4,h5⟩:=(show cD P w H h a (.dT kvs) from Yu ok e)
 refine⟨z,y,xs,r,o,es,ep,h1,h2,h3,h4,fun x hx=>?_,h5⟩
 have all:∀ {l:List (List Key × V)}{m:List (List Key × Addr × Value)},KT H l m→∀ x∈m,(tupleKind (cz P w)).is h x.1 x.2.1:=by
   intro l m q
   induction q with
   | nil=>intro x hx;exact nomatch hx
   | @cons p q ps qs hq t ih =>
     intro x hx
     rcases List.mem_cons.mp hx with e | hx
     · subst e
       exact qC ok (by rw [← hq.1];exact hq.2.1)
     · exact ih x hx
 exact all r x hx
theorem Pj {kvs:List (List Key × V)} (ok:rT P w H h) (e:H a=some (.dT kvs)):kvs.length≤sizeLine∧(a == sysModules)=false ∧
   ∃ xs,KT H kvs xs∧h.DictOfH (tupleKind (cz P w)) a xs:=zj ok (.inl e)
end
def jd (H:Hp) (a:Addr) (y:V) (r:Option V):Prop :=
 (∃ kvs k,Rd H a (.dK kvs)∧y=kV k∧r=eU kvs k)∨∃ kvs k b,Rd H a (.dT kvs)∧y=.ref b∧H b=some (.tup (k.map kV))∧r=eU kvs k
def Cd (H:Hp) (a:Addr) (y v:V) (H':Hp):Prop :=
 (∃ kvs k,H a=some (.dK kvs)∧y=kV k∧kvs.length<sizeLine∧H'=upd H a (.dK (putK kvs k v))) ∨
 ∃ kvs k b,H a=some (.dT kvs)∧y=.ref b∧H b=some (.tup (k.map kV))∧kvs.length<sizeLine∧H'=upd H a (.dT (putK kvs k v))
theorem jd.k {H:Hp}{a:Addr}{kvs:List (Key × V)}{k:Key} (e:H a=some (.dK kvs)):jd H a (kV k) (eU kvs k):=.inl ⟨kvs,k,.inl e,rfl,rfl⟩
theorem jd.t {H:Hp}{a b:Addr}{kvs:List (List Key × V)}{k:List Key} (e:H a=some (.dT kvs)) (eb:H b=some (.tup (k.map kV))):jd H a (.ref b) (eU kvs k):=.inr ⟨kvs,k,b,.inl e,rfl,eb,rfl⟩
theorem Cd.k {H:Hp}{a:Addr}{kvs:List (Key × V)}{k:Key}{v:V} (e:H a=some (.dK kvs)) (hl:kvs.length<sizeLine):Cd H a (kV k) v (upd H a (.dK (putK kvs k v))):=.inl ⟨kvs,k,e,rfl,hl,rfl⟩
theorem Cd.t {H:Hp}{a b:Addr}{kvs:List (List Key × V)}{k:List Key}{v:V} (e:H a=some (.dT kvs)) (eb:H b=some (.tup (k.map kV))) (hl:kvs.length<sizeLine) :
   Cd H a (.ref b) v (upd H a (.dT (putK kvs k v))):=.inr ⟨kvs,k,b,e,rfl,eb,hl,rfl⟩
section
variable {X:Cx}{pins:List (Addr × Obj)}{σ:St}{H:Hp}{s:Shared}{a:Addr}{y v:V}{u r:Value}{o:Option V}{A:Around}{E:Value→Shared→Prop}
theorem Inv.big (I:Inv X pins σ H s):sysModules<s.heap.objs.size:=by
 have h:mainGlobals<s.heap.objs.size:=(I.mod.glob.keeps I.bk).lt
 exact Nat.lt_trans (by decide) h
theorem QF {Q:Value→Shared→Prop} (hu:A.units+1<cLine) (I:Inv X pins σ H s) (g:jd H a y (some v)) (ry:RelV y u) (h:∀ w' s',Inv X pins σ H s'→RelV v w'→Q w' s') :
   wpAny (model X.prog X.w) A (getItem (.ref a) u) Q E s:=by
 rcases g with ⟨kvs,k,e,ey,l⟩ | ⟨kvs,k,b,e,ey,eb,l⟩
 · subst ey
   obtain⟨z,hd,vs,rel,dd⟩:=zg I.hok e
   obtain⟨w',hw,Qz⟩:=qp.some_of (v:=v) (o:=valueAt vs k) (by rw [l];exact rel.val k)
   exact wpAny_getItem_of (Ca ry) dd.mapOf hw (h w' _ (I.tok _) Qz)
 · subst ey
   cases (show u=Value.ref b from ry)
   obtain⟨z,hd,xs,rel,dd⟩:=zj I.hok e
   obtain⟨w',hw,Qz⟩:=qp.some_of (v:=v) (o:=(atKey xs k).map (·.2)) (by rw [l];exact rel.val k)
   obtain⟨p,hp,hp2⟩:=Option.map_eq_some_iff.mp hw
   refine wpAny_getItem_heap (tupleKind_room_in1 hu) (qC I.hok eb) dd hp ?_
   rw [hp2]
   exact h w' _ (I.tok _) Qz
theorem apz {Q:Value→Shared→Prop} (hu:A.units+1<cLine) (I:Inv X pins σ H s) (g:jd H a y o) (ry:RelV y u) (h:∀ s',Inv X pins σ H s'→Q (.bool o.isSome) s') :
   wpAny (model X.prog X.w) A (compareOp .In u (.ref a)) Q E s:=by
 rcases g with ⟨kvs,k,e,ey,l⟩ | ⟨kvs,k,b,e,ey,eb,l⟩
 · subst ey
   obtain⟨z,hd,vs,rel,dd⟩:=zg I.hok e
   refine wpAny_in_of (Ca ry) hd dd.mapOf ?_
   rw [← (rel.val k).oM,← l]
   exact h _ (I.tok _)
 · subst ey
   cases (show u=Value.ref b from ry)
   obtain⟨z,hd,xs,rel,dd⟩:=zj I.hok e
   refine wpAny_in_heap (tupleKind_room_in1 hu) (qC I.hok eb) hd dd ?_
   have q:=(rel.val k).oM
   rw [Option.isSome_map] at q
   rw [← q,← l]
   exact h _ (I.tok _)
theorem Wx {Q:Value→Shared→Prop} (hu:A.units+1<cLine) (I:Inv X pins σ H s) (g:jd H a y o) (ry:RelV y u) (h:∀ s',Inv X pins σ H s'→Q (.bool (!o.isSome)) s') :
   wpAny (model X.prog X.w) A (compareOp .NotIn u (.ref a)) Q E s:=by
 rcases g with ⟨kvs,k,e,ey,l⟩ | ⟨kvs,k,b,e,ey,eb,l⟩
 · subst ey
   obtain⟨z,hd,vs,rel,dd⟩:=zg I.hok e
   refine wpAny_notIn_of (Ca ry) hd dd.mapOf ?_
   rw [← (rel.val k).oM,← l]
   exact h _ (I.tok _)
 · subst ey
   cases (show u=Value.ref b from ry)
   obtain⟨z,hd,xs,rel,dd⟩:=zj I.hok e
   refine wpAny_notIn_heap (tupleKind_room_in1 hu) (qC I.hok eb) hd dd ?_
   have q:=(rel.val k).oM
   rw [Option.isSome_map] at q
   rw [← q,← l]
   exact h _ (I.tok _)
theorem HD {h':Heap}{t':Nat}{ob:HO} (I:Inv X pins σ H s) (mu:Mut (H a)) (hs:Heap.SameBut a s.heap h') (he:∃ q,h'.get? a=some q) (new:cD X.prog X.w (upd H a ob) h' a ob) :
   Inv X pins σ (upd H a ob) { s with heap:=h',toks:=t' } :=
 I.write (x:=a) (e:=a) mu (.inl rfl) (fun b q hb z=>(hs.2 b hb).trans z) he new
theorem ZZ {P:Program}{w:World}{H':Hp}{h':Heap}{kvs:List (Key × V)}{vs:List (Key × Value)} (z:kvs.length≤sizeLine) (hd:(a == sysModules)=false) (rel:KV kvs vs) (dd:h'.DictOf (cz P w) a vs) :
   cD P w H' h' a (.dK kvs):=⟨z,hd,vs,rel,dd⟩
theorem QG {H':Hp}{Q:Unit→Shared→Prop} (hu:A.units+1<cLine) (I:Inv X pins σ H s) (g:Cd H a y v H') (ry:RelV y u) (rv:RelV v r) (h:∀ s',Inv X pins σ H' s'→Q () s') :
   wpAny (model X.prog X.w) A (setItem (.ref a) u r) Q E s:=by
 rcases g with ⟨kvs,k,e,ey,l,eH⟩ | ⟨kvs,k,b,e,ey,eb,l,eH⟩
 · subst ey eH
   obtain⟨z,hd,vs,rel,dd⟩:=adA I.hok e
   have hz:vs.length≤sizeLine:=by rw [← rel.length];exact z
   have hl:(putK kvs k v).length≤sizeLine:=by have:=xD kvs k v;omega
   refine wpAny_setItem_pairs (hsz:=hz) (Ca ry) dd fun h' dd' hs=>h _ ?_
   have he:∃ q,h'.get? a=some q:=let ⟨q,_,_,hq,_⟩:=dd'; ⟨q,hq⟩
   exact HD I (by rw [e];exact True.intro) hs he (ZZ hl hd (rel.put k rv) dd')
 · subst ey eH
   cases (show u=Value.ref b from ry)
   obtain⟨z,hd,xs,rel,dd⟩:=Pj I.hok e
   have hz:xs.length≤sizeLine:=by rw [← Paired.length rel];exact z
   have hl:(putK kvs k v).length≤sizeLine:=by have:=xD kvs k v;omega
   refine wpAny_setItem_heap (hsz:=hz) (tupleKind_room_in1 hu) (qC I.hok eb) dd fun h' dd' hs=>h _ ?_
   obtain⟨q,es,ep,hq,h2,h3,h4,_,h5⟩:=dd'
   refine HD I (by rw [e];exact True.intro) hs ⟨q,hq⟩ ⟨hl,hd,_,(rel.put k eb rv).keeps fun c ys ec=>?_,q,es,ep,hq,h2,h3,h4,h5⟩
   rw [zI (yJ ec e (fun z=>nomatch z))]
   exact ec
end
section
variable {X:Cx}{pins:List (Addr × Obj)}{σ:St}{H:Hp}{s:Shared}{a:Addr}{kvs:List (Key × V)}{k:Key}{u:Value}{A:Around}{E:Value→Shared→Prop}
end
def adB (i:Expr):Prop:=∀ ov iv,subscripted i false ov iv=operate [ov,iv] (getItem ov iv)
theorem Wy {prog:Program}{w:World}{A:Around}{E:Value→Shared→Prop}{s:Shared}{env:Env}{value slice:Expr}{pos:Pos}{T id:String}{Q:Value→Shared→Prop}
   (hl:typeLookup (.type T) "__getitem__" = pure (some (.builtin id))) (hs:adB slice)
   (h:wpAny (model prog w) A (eval value env) (fun o s₁=>wpAny (model prog w) A (eval slice env) (fun i s₂=>s₂.TypeIs o T∧wpAny (model prog w) A (getItem o i) Q E s₂) E s₁) E s) :
   wpAny (model prog w) A (eval (.Subscript value slice pos) env) Q E s:=by
 refine Subscript_ (wpAny_mono h (fun o s₁ h₁=>wpAny_mono h₁ (fun i s₂ h₂=>?_) fun _ _ x=>x) fun _ _ x=>x)
 obtain⟨hT,h₂⟩:=h₂
 unfold subscriptTail
 refine wpAny_bind ?_
 rw [getitemInPython_of_ne hT.not_modules]
 refine wpAny_bind (wpAny_specialOf hT hl ?_)
 have fin:wpAny (model prog w) A (subscripted slice false o i) (fun r s₃=>wpAny (model prog w) A (letTemporaryGo value o r >>= fun _=>pure r) Q E s₃) E s₂:=by
   rw [hs o i]
   exact wpAny_operating (wpAny_mono h₂ (fun r s₃ h₃=>wpAny_bind (wpAny_letTemporaryGo (wpAny_pure h₃))) fun _ _ x=>x)
 first
   | exact wpAny_pure (wpAny_bind fin)
   | exact wpAny_bind (wpAny_pure (wpAny_bind fin))
   | exact wpAny_bind fin
theorem JR {X:Cx}{pins:List (Addr × Obj)}{σ:St}{H:Hp}{s:Shared}{a:Addr}{y:V}{o:Option V} (I:Inv X pins σ H s) (g:jd H a y o):s.TypeIs (.ref a) "dict":=by
 rcases g with ⟨kvs,k,e,_,_⟩ | ⟨kvs,k,b,e,_,_,_⟩
 · obtain⟨_,_,vs,_,dd⟩:=zg I.hok e
   exact dd.typeIs
 · obtain⟨_,_,xs,_,dd⟩:=zj I.hok e
   exact dd.typeIs
def adC (td ty:TE):TE:=fun σ H Q=>td σ H fun x H1=>ty σ H1 fun y H2=>∃ a v,x=.ref a∧jd H2 a y (some v)∧Q v H2
def adD (td ty tv:TE):TS:=fun D σ H=>tv σ H fun v H1=>td σ H1 fun x H2=>ty σ H2 fun y H3=>∃ a H4,x=.ref a∧Cd H3 a y v H4∧D.nx σ H4
section
variable {X:Cx}{o i e value:Expr}{pos pos' tpos:Pos}{td ty tv:TE}
theorem Bu (hu:X.A.units+1<cLine) (ho:PE X o td) (hi:PE X i ty) (hs:adB i):PE X (.Subscript o i pos) (adC td ty):=by
 intro pins s σ H Q I h
 refine Wy PySem.F.slot_dict_getitem.lookup hs (dO (ho pins s σ H _ I h) fun u s1 ⟨x,H1,I1,rx,q1⟩=>dO (hi pins s1 σ H1 _ I1 q1) fun iv s2 zq=>?_)
 obtain⟨y,H2,I2,ry,a,v,ex,g,q2⟩:=zq
 subst ex
 obtain rfl:u=Value.ref a:=rx
 exact⟨JR I2 g,QF hu I2 g ry fun w' s3 I3 Qz=>⟨v,H2,I3,Qz,q2⟩⟩
theorem vA (hu:X.A.units+1<cLine) (ho:PE X o td) (hi:PE X i ty) (hv:PE X value tv) (hs:swapsWith value (some (.Subscript o i pos')) pos.line X.env=pure false) :
   PS X (.Assign [.Subscript o i pos'] value pos) (adD td ty tv):=by
 intro pins s σ H D I h
 refine wpAny_Assign_Subscript (dO (hv pins s σ H _ I h) fun r s1 ⟨v,H1,I1,rv,q1⟩=>dO (ho pins s1 σ H1 _ I1 q1) fun u s2 ⟨x,H2,I2,rx,q2⟩=>dO (hi pins s2 σ H2 _ I2 q2) fun iv s3 ⟨y,H3,I3,ry,a,H4,ex,g,q3⟩=>?_) hs
 subst ex
 obtain rfl:u=Value.ref a:=rx
 exact QG hu I3 g ry rv fun s4 I4=>⟨σ,H4,I4,q3⟩
end
theorem RX {P:Program}{w:World}{H:Hp} (h:Heap) (hb:sysModules<h.objs.size):cD P w H (h.push { cls:=.type "dict",data:=.dict #[] }) h.objs.size (.dK []) :=
 ⟨Nat.zero_le _,beq_eq_false_iff_ne.mpr (Ne.symm (Nat.ne_of_lt hb)),[],.nil,Heap.DictOf.new h⟩
theorem RZ {P:Program}{w:World}{H:Hp} (h:Heap) (hb:sysModules<h.objs.size):cD P w H (h.push { cls:=.type "dict",data:=.dict #[] }) h.objs.size (.dT []) :=
 ⟨Nat.zero_le _,beq_eq_false_iff_ne.mpr (Ne.symm (Nat.ne_of_lt hb)),[],.nil,_,#[],0,Heap.get?_push_size _ rfl,⟨rfl,rfl,rfl⟩,rfl,rfl,List.nodup_nil⟩
def Z0:TE:=fun _ H Q=>∀ p,H p=none→Q (.ref p) (upd H p (.dK []))
section
variable {X:Cx}{pos:Pos}
theorem oN:PE X (.Dict [] [] pos) Z0:=fun pins s σ H Q I h =>
 wpAny_Dict_empty ⟨.ref s.heap.objs.size,_,I.laid (a:=s.heap.objs.size) (o:=.dK []) (t':=s.toks) (fun _ _ q=>Heap.get?_push_of_some _ q) (Nat.le_refl _) (RX s.heap I.big),rfl,h _ (I.hok.fresh (Nat.le_refl _))⟩
end
def Mz:List (TE × TE)→St→Hp→(List (V × V)→Hp→Prop)→Prop
 | [],_,H,Q=>Q [] H
 | (tk,tv)::r,σ,H,Q=>tk σ H fun x H1=>tv σ H1 fun y H2=>Mz r σ H2 fun ps H3=>Q ((x,y)::ps) H3
abbrev VV:List (V × V)→List (Value × Value)→Prop:=Paired fun p q=>RelV p.1 q.1∧RelV p.2 q.2
def zm (X:Cx) (pos:Pos) (keys:List (Option Expr)) (values:List Expr) (Wz:List (TE × TE)):Prop :=
 ∀ (pins:List (Addr × Obj)) (s:Shared) (σ:St) (H:Hp) (Q:List (V × V)→Hp→Prop),Inv X pins σ H s→Mz Wz σ H Q →
   wpAny (model X.prog X.w) X.A (evalPairs (pairTrees keys values X.env pos)) (fun vs s'=>∃ ps H',Inv X pins σ H' s'∧VV ps vs∧Q ps H') X.xe s
theorem HF {X:Cx}{pos:Pos}:zm X pos [] [] []:=fun pins s σ H Q I h=>pairTrees_nil_walk ⟨[],H,I,.nil,h⟩
theorem Ce {X:Cx}{pos:Pos}{k v:Expr}{ks:List (Option Expr)}{vs:List Expr}{tk tv:TE}{Wz:List (TE × TE)} (hk:PE X k tk) (hv:PE X v tv) (hr:zm X pos ks vs Wz) :
   zm X pos (some k::ks) (v::vs) ((tk,tv)::Wz):=fun pins s σ H Q I h =>
 pairTrees_cons_walk (dO (hk pins s σ H _ I h) fun u s1 ⟨x,H1,I1,rx,q1⟩=>dO (hv pins s1 σ H1 _ I1 q1) fun w2 s2 ⟨y,H2,I2,ry,q2⟩ =>
   dO (hr pins s2 σ H2 _ I2 q2) fun ws s3 ⟨ps,H3,I3,rel,q3⟩=>⟨(x,y)::ps,H3,I3,.cons ⟨rx,ry⟩ rel,q3⟩)
def Z1 (kvs more:List (Key × V)):List (Key × V):=more.foldl (fun acc kv=>putK acc kv.1 kv.2) kvs
theorem KV.merge:∀ {more:List (Key × V)}{rs:List (Key × Value)}{kvs:List (Key × V)}{vs:List (Key × Value)},KV more rs→KV kvs vs→KV (Z1 kvs more) (merged vs rs):=by
 intro more rs kvs vs r
 unfold KV at r
 induction r generalizing kvs vs with
 | nil=>intro q;exact q
 | @cons p q ps qs h t ih =>
   intro r0
   have e:KV (putK kvs p.1 p.2) (stored vs q.1 q.2):=by
     have:=r0.put p.1 h.2
     rw [← h.1];exact this
   exact ih e
structure M1 (X:Cx) (o:Expr) (m:Str) (apos:Pos) (e:Expr) (cpos:Pos):Prop where
 base:attributeBase o m X.env (eval o X.env)=eval o X.env
 few:((backTo cpos (starEach [e] X.env)).all (fun x=>!x.1) && (backToKw cpos (keywordEach [] X.env)).all (fun x=>x.1.isSome)
   && decide (([e]:List Expr).length+([]:List Keyword).length+(if ([]:List Keyword).isEmpty then 0 else 1)<30))=true
 line:(apos.endLine == cpos.line)=true
 trees:backTo cpos (starEach [e] X.env)=[(false,eval e X.env)]
structure M2 (X:Cx) (o:Expr) (m:Str) (apos:Pos) (e f:Expr) (cpos:Pos):Prop where
 base:attributeBase o m X.env (eval o X.env)=eval o X.env
 few:((backTo cpos (starEach [e,f] X.env)).all (fun x=>!x.1) && (backToKw cpos (keywordEach [] X.env)).all (fun x=>x.1.isSome)
   && decide (([e,f]:List Expr).length+([]:List Keyword).length+(if ([]:List Keyword).isEmpty then 0 else 1)<30))=true
 line:(apos.endLine == cpos.line)=true
 trees:backTo cpos (starEach [e,f] X.env)=[(false,eval e X.env),(false,eval f X.env)]
def IsD (H:Hp) (a:Addr):Prop:=(∃ kvs,Rd H a (.dK kvs))∨∃ kvs,Rd H a (.dT kvs)
theorem R3 {X:Cx}{pins:List (Addr × Obj)}{σ:St}{H:Hp}{s:Shared}{a:Addr} (I:Inv X pins σ H s) (d:IsD H a) :
   s.TypeIs (.ref a) "dict"∧(∀ b,Value.ref a=.ref b→∃ ob,s.heap.get? b=some ob∧ob.dict=none)∧(a == sysModules)=false:=by
 rcases d with ⟨kvs,e⟩ | ⟨kvs,e⟩
 · obtain⟨_,hd,vs,_,dd⟩:=zg I.hok e
   refine⟨dd.typeIs,fun b q=>?_,hd⟩
   cases q
   obtain⟨ob,_,_,h1,h2,_⟩:=dd
   exact⟨ob,h1,h2.2.1⟩
 · obtain⟨_,hd,xs,_,dd⟩:=zj I.hok e
   refine⟨dd.typeIs,fun b q=>?_,hd⟩
   cases q
   obtain⟨ob,_,_,h1,h2,_⟩:=dd
   exact⟨ob,h1,h2.2.1⟩
section
variable {X:Cx}{pins:List (Addr × Obj)}{σ:St}{H:Hp}{s:Shared}{a:Addr}{y d:V}{u r:Value}{o:Option V}{A:Around}{E:Value→Shared→Prop}
theorem Z2 {Q:Value→Shared→Prop} (hu:A.units+1<cLine) (I:Inv X pins σ H s) (g:jd H a y o) (ry:RelV y u) (h:∀ w' s',Inv X pins σ H s'→RelV (o.getD .non) w'→Q w' s') :
   wpAny (model X.prog X.w) A (call (.builtin "dict.get") [.ref a,u]) Q E s:=by
 rcases g with ⟨kvs,k,e,ey,l⟩ | ⟨kvs,k,b,e,ey,eb,l⟩
 · subst ey
   obtain⟨z,hd,vs,rel,dd⟩:=zg I.hok e
   refine call_meetsIn PySem.F.slot_dict_get dd.typeIs PySem.F.entry_dict_get (PySem.F.args_dict_get_2 _ _) (meets_dict_get (cz X.prog X.w) a (Ca ry) hd) ⟨_,dd.mapOf,h _ _ (I.tok _) ?_⟩
   rw [l]
   exact (rel.val k).getD rfl
 · subst ey
   cases (show u=Value.ref b from ry)
   obtain⟨z,hd,xs,rel,dd⟩:=zj I.hok e
   refine call_meetsIn PySem.F.slot_dict_get dd.typeIs PySem.F.entry_dict_get (PySem.F.args_dict_get_2 _ _) (meetsH_dict_get (tupleKind (cz X.prog X.w)) a b hd) ⟨tupleKind_room_in1 hu,k,xs,qC I.hok eb,dd,h _ _ (I.tok _) ?_⟩
   rw [l]
   exact (rel.val k).getD rfl
theorem Z3 {Q:Value→Shared→Prop} (hu:A.units+1<cLine) (I:Inv X pins σ H s) (g:jd H a y o) (ry:RelV y u) (rd:RelV d r) (h:∀ w' s',Inv X pins σ H s'→RelV (o.getD d) w'→Q w' s') :
   wpAny (model X.prog X.w) A (call (.builtin "dict.get") [.ref a,u,r]) Q E s:=by
 rcases g with ⟨kvs,k,e,ey,l⟩ | ⟨kvs,k,b,e,ey,eb,l⟩
 · subst ey
   obtain⟨z,hd,vs,rel,dd⟩:=zg I.hok e
   refine call_meetsIn PySem.F.slot_dict_get dd.typeIs PySem.F.entry_dict_get (PySem.F.args_dict_get_3 _ _ _) (meets_dict_get_default (cz X.prog X.w) a (Ca ry) hd r) ⟨_,dd.mapOf,h _ _ (I.tok _) ?_⟩
   rw [l]
   exact (rel.val k).getD rd
 · subst ey
   cases (show u=Value.ref b from ry)
   obtain⟨z,hd,xs,rel,dd⟩:=zj I.hok e
   refine call_meetsIn PySem.F.slot_dict_get dd.typeIs PySem.F.entry_dict_get (PySem.F.args_dict_get_3 _ _ _) (meetsH_dict_get_default (tupleKind (cz X.prog X.w)) a b hd r) ⟨tupleKind_room_in1 hu,k,xs,qC I.hok eb,dd,h _ _ (I.tok _) ?_⟩
   rw [l]
   exact (rel.val k).getD rd
end
def Z4 (td ty:TE):TE:=fun σ H Q=>td σ H fun x H1=>∃ a,x=.ref a∧IsD H1 a∧ty σ H1 fun y H2=>∃ o,jd H2 a y o∧Q (o.getD .non) H2
def Z5 (td ty tx:TE):TE:=fun σ H Q=>td σ H fun x H1=>∃ a,x=.ref a∧IsD H1 a∧ty σ H1 fun y H2=>tx σ H2 fun z H3=>∃ o,jd H3 a y o∧Q (o.getD z) H3
section
variable {X:Cx}{o e f:Expr}{apos cpos:Pos}{td ty tx:TE}
theorem JS (hu:X.A.units+1<cLine) (ho:PE X o td) (he:PE X e ty) (m:M1 X o "get" apos e cpos):PE X (.Call (.Attribute o "get" apos) [e] [] cpos) (Z4 td ty):=by
 intro pins s σ H Q I h
 refine wpAny_Call_method m.base m.few m.line PySem.F.plainAttrs_dict PySem.F.slot_dict_get PySem.F.type_dict_get (dO (ho pins s σ H _ I h) fun u s1 zq=>?_)
 obtain⟨x,H1,I1,rx,a,ex,d,q1⟩:=zq
 subst ex
 obtain rfl:u=Value.ref a:=rx
 obtain⟨t1,t2,_⟩:=R3 I1 d
 refine⟨t1,t2,?_⟩
 rw [m.trees]
 refine Calls.callWith_builtin rfl (Calls.evalArgs_plain (Calls.spliced_cons (dO (he pins s1 σ H1 _ I1 q1) fun iv s2 ⟨y,H2,I2,ry,ov,g,q2⟩=>Calls.spliced_nil ?_)))
 exact Z2 hu I2 g ry fun w' s3 I3 Qz=>⟨_,H2,I3,Qz,q2⟩
theorem JT (hu:X.A.units+1<cLine) (ho:PE X o td) (he:PE X e ty) (hf:PE X f tx) (m:M2 X o "get" apos e f cpos):PE X (.Call (.Attribute o "get" apos) [e,f] [] cpos) (Z5 td ty tx):=by
 intro pins s σ H Q I h
 refine wpAny_Call_method m.base m.few m.line PySem.F.plainAttrs_dict PySem.F.slot_dict_get PySem.F.type_dict_get (dO (ho pins s σ H _ I h) fun u s1 zq=>?_)
 obtain⟨x,H1,I1,rx,a,ex,d,q1⟩:=zq
 subst ex
 obtain rfl:u=Value.ref a:=rx
 obtain⟨t1,t2,_⟩:=R3 I1 d
 refine⟨t1,t2,?_⟩
 rw [m.trees]
 refine Calls.callWith_builtin rfl (Calls.evalArgs_plain (Calls.spliced_cons (dO (he pins s1 σ H1 _ I1 q1) fun iv s2 ⟨y,H2,I2,ry,q2⟩ =>
   Calls.spliced_cons (dO (hf pins s2 σ H2 _ I2 q2) fun fv s3 ⟨z,H3,I3,rz,ov,g,q3⟩=>Calls.spliced_nil ?_))))
 exact Z3 hu I3 g ry rz fun w' s4 I4 Qz=>⟨_,H3,I4,Qz,q3⟩
end
section
variable {X:Cx}{pins:List (Addr × Obj)}{σ:St}{H:Hp}{s:Shared}{a:Addr}{kvs:List (Key × V)}{A:Around}{E:Value→Shared→Prop}
end
section
variable {X:Cx}{pins:List (Addr × Obj)}{σ:St}{H:Hp}{s:Shared}{a:Addr}{y:V}{u:Value}{A:Around}{E:Value→Shared→Prop}
end
end L2
namespace L2
open PySem PySem.Spec PyProof.Rows
section
variable {X:Cx}
end
section
variable {κ:Type} [DecidableEq κ]
end
end L2
namespace L2
open PySem PySem.Spec PyProof.Rows PySem.Calls
section
variable {prog:Program}{w:World}{A:Around}{R:Result→Shared→Prop}{s:Shared}
theorem JV {elt target iter:Expr}{scope:Scope}{pos:Pos}{it acc:Value}{env:Env} (I:Nat→Shared→Prop)
   (turn:∀ n s,I n s→wpAny (model prog w) A (pyNext it) (fun r s₁=>match r with
     | none=>R (.ok .next) s₁
     | some v=>wpAny (model prog w) A (letOwnedTupleGo target it v) (fun _ s₂=>wpAny (model prog w) A (assign target env v) (fun _ s₃ =>
         wpAny (model prog w) A (eval elt env) (fun x s₄ =>
           wpAny (model prog w) A (call (.builtin "list.append") [acc,x]) (fun _ s₅=>∃ m,m<n∧I m s₅) (notedBy (model prog w) A env fun e s'=>R (.error e) s') s₄)
           (notedBy (model prog w) A env fun e s'=>R (.error e) s') s₃) (notedBy (model prog w) A env fun e s'=>R (.error e) s') s₂) (notedBy (model prog w) A env fun e s'=>R (.error e) s') s₁)
     (notedBy (model prog w) A env fun e s'=>R (.error e) s') s)
   (n:Nat) (h:I n s):codeAny (model prog w) A (.compLoop (.ListComp elt [⟨target,iter,[],0⟩] scope pos) 0 it acc env) R s:=by
 refine codeAny_loop rfl I (fun n s hI=>?_) n h
 show wpAny _ A ((compTurn (.ListComp elt [⟨target,iter,[],0⟩] scope pos) 0 it acc env).onRaise (fun x=>do noteFrame x env;theTreesLotGoes x)) _ _ s
 refine wpAny_noted ?_
 rw [compTurn_list1]
 refine wpAny_bind (wpAny_standAt (wpAny_bind (wpAny_mono (turn n s hI) (fun r s₁ h₁=>?_) fun _ _ h'=>h')))
 cases r with
 | none=>exact wpAny_pure h₁
 | some v =>
   refine wpAny_bind (wpAny_mono h₁ (fun _ s₂ h₂=>wpAny_bind (wpAny_mono h₂ (fun _ s₃ h₃=>?_) fun _ _ h'=>h')) fun _ _ h'=>h')
   exact wpAny_bind (wpAny_bind (wpAny_mono h₃ (fun x s₄ h₄=>wpAny_bind (wpAny_mono h₄ (fun _ s₅ h₅=>wpAny_pure (wpAny_pure ⟨rfl,h₅⟩)) fun _ _ h'=>h')) fun _ _ h'=>h'))
end
def gY (env:Env):List (Str × NameKind)→List (Str × Addr)→List (Str × Addr)
 | [],cs=>cs
 | (n,k)::r,cs=>gY env r (if k == .free then match env.cells.lookup n with | some c=>(n,c)::cs | none=>cs else cs)
theorem JW {env:Env}:∀ {ns:List (Str × NameKind)}{cs:List (Str × Addr)}{y:Str}{c:Addr},(y,c)∈gY env ns cs→(y,c)∈cs∨env.cells.lookup y=some c
 | [],_,_,_,h=>.inl h
 | (n,k)::r,cs,y,c,h=>by
   unfold gY at h
   rcases JW h with q | q
   · split at q
     · cases e:env.cells.lookup n with
       | none=>rw [e] at q;exact .inl q
       | some d =>
         rw [e] at q
         rcases List.mem_cons.mp q with z | z
         · cases z;exact .inr e
         · exact .inl z
     · exact .inl q
   · exact .inr q
theorem JX {env:Env}:∀ {ns:List (Str × NameKind)}{cs:List (Str × Addr)}{y:Str},((∃ c,(y,c)∈cs)∨((y,NameKind.free)∈ns∧∃ c,env.cells.lookup y=some c))→∃ c,(y,c)∈gY env ns cs
 | [],_,_,h=>by
   rcases h with h | ⟨h,_⟩
   · exact h
   · cases h
 | (n,k)::r,cs,y,h=>by
   unfold gY
   apply JX
   rcases h with ⟨c,h⟩ | ⟨h,c,e⟩
   · left
     split
     · cases e:env.cells.lookup n with
       | none=>exact⟨c,h⟩
       | some d=>exact⟨c,List.mem_cons_of_mem _ h⟩
     · exact⟨c,h⟩
   · rcases List.mem_cons.mp h with z | z
     · cases z
       left
       rw [e]
       exact⟨c,by simp⟩
     · exact .inr ⟨z,c,e⟩
theorem Cg {env:Env}:∀ {ns:List (Str × NameKind)}{cs:List (Str × Addr)},(∀ y,(y,NameKind.free)∈ns→∃ c,env.cells.lookup y=some c) →
   (forIn ns cs fun (x:Str × NameKind) (r:List (Str × Addr))=>(if x.2 == NameKind.free then (do let c ← cellOf env x.1;pure (ForInStep.yield ((x.1,c)::r))) else pure (ForInStep.yield r):Sem (ForInStep (List (Str × Addr)))))=(pure (gY env ns cs):Sem (List (Str × Addr)))
 | [],_,_=>rfl
 | (n,k)::r,cs,h=>by
   have ih:=@Cg env r
   rw [List.forIn_cons]
   unfold gY
   cases hk:k == NameKind.free with
   | false =>
     simp only [Bool.false_eq_true,if_false]
     exact ih fun y hy=>h y (List.mem_cons_of_mem _ hy)
   | true =>
     have ek:k=NameKind.free:=by simpa using hk
     subst ek
     obtain⟨c,e⟩:=h n (by simp)
     have ec:cellOf env n=pure c:=by unfold cellOf;rw [e]
     simp only [if_true]
     rw [ec,e]
     exact ih fun y hy=>h y (List.mem_cons_of_mem _ hy)
theorem MF {scope:Scope}{env:Env} (h:∀ y,(y,NameKind.free)∈scope.names→∃ c,env.cells.lookup y=some c):closureFor scope env=pure (gY env scope.names []):=by
 have q:=Cg (cs:=[]) h
 unfold closureFor
 exact congrArg (fun m=>m >>= fun r=>pure r) q
end L2
namespace L2
open PySem PySem.Spec PyProof.Rows PySem.Calls
theorem xP {env:Env}{y:Str}:∀ {names:List (Str × NameKind)},
   (names.map fun (n,k)=>if (k == NameKind.free && env.scope.kind == .function && env.kindOf n == some .cell) then (n,NameKind.cell) else (n,k)).lookup y
     = (names.lookup y).map fun k=>if (k == NameKind.free && env.scope.kind == .function && env.kindOf y == some .cell) then NameKind.cell else k
 | []=>rfl
 | (n,k)::r=>by
   have ih:=@xP env y r
   by_cases hx:y=n
   · subst hx
     simp only [List.map_cons]
     split <;> rename_i hc
     · rw [List.lookup_cons,List.lookup_cons];simp only [beq_self_eq_true,Option.map_some];rw [if_pos hc]
     · rw [List.lookup_cons,List.lookup_cons];simp only [beq_self_eq_true,Option.map_some];rw [if_neg hc]
   · have hb:(y == n)=false:=beq_eq_false_iff_ne.mpr hx
     simp only [List.map_cons]
     split <;> simp only [List.lookup_cons,hb] <;> exact ih
section
variable {X:Cx}{pins:List (Addr × Obj)}{σ:St}{H:Hp}{s:Shared}{a:Addr}{o:HO}
theorem Inv.track (I:Inv X pins σ H s) (f:kZ X pins H a) (hs:X.s₀.heap.objs.size≤a) (new:cD X.prog X.w (upd H a o) s.heap a o):Inv X pins σ (upd H a o) s:=by
 obtain⟨f0,f1,f2,f3,f4,f5⟩:=f
 have old:∀ b ob,X.s₀.heap.get? b=some ob→b≠a:=fun b ob e z=>by subst z;exact absurd (Nat.lt_of_lt_of_le (Heap.lt_size e) hs) (Nat.lt_irrefl _)
 refine⟨I.ok,I.os,I.bare,⟨I.base.keep,I.base.slot,fun b ob e n hx=>?_,I.base.there,fun b xs e=>?_,fun b ob u e=>?_,fun b ps e=>?_⟩,I.loc,I.cell,?_,fun x c e=>?_,fun p hp=>?_,fun b u e=>?_,I.len⟩
 · rw [zI (old b ob e)];exact I.base.free b ob e n hx
 · have q:=I.base.tups b xs e;rw [zI (zH q f0)];exact q
 · have q:=I.base.nR b ob u e;rw [zI (zH q f0)];exact q
 · obtain⟨more,q⟩:=I.base.oJ b ps e;exact⟨more,by rw [zI (zH q f0)];exact q⟩
 · rw [zI (Ne.symm f1)];exact I.free
 · rw [zI (f4 x c e)];exact I.jM x c e
 · obtain⟨e,n,ne,nf,d⟩:=I.pin p hp
   exact⟨e,by rw [zI (f5 p hp)];exact n,ne,nf,d⟩
 · by_cases hb:b=a
   · subst hb;rw [zB] at e;cases e;exact new
   · rw [zI hb] at e
     exact (I.hok b u e).stay (fun c v _ q=>q) (fun c q=>by rw [zI (zH q f0)];exact q) fun c xs q=>by rw [zI (zH q f0)];exact q
end
def dW (X:Cx) (scope:Scope) (C:Addr) (x:Str) (M:List Str) (s₂:Shared) (H₂:Hp) (fp:List Addr):Cx :=
 { X with N:=x::M,s₀:=s₂,H₀:=H₂,env:=compEnvC scope (gY X.env scope.names []) C X.env,outer:=X.stack,ex:=fp,fn:=fun _=>false,pn:=[],xe:=fun _ _=>False }
structure cM (X:Cx) (scope:Scope) (x:Str) (M:List Str):Prop where
 kind:scope.kind=.function
 cell:∀ y∈scope.names,y.2≠.cell
 names:∀ y∈scope.names,y.2=.local→scope.names.lookup y.1=some .local
 loc:scope.names.lookup x=some .local
 nd:(x::M).Nodup
 free:∀ y,(y,NameKind.free)∈scope.names→X.env.scope.names.lookup y=some .cell∨X.env.scope.names.lookup y=some .free
 len:M.length=X.N.length
 sub:∀ (j:Nat) y,M[j]? = some y→scope.names.lookup y=some .local∨scope.names.lookup y=some .free→X.N[j]? = some y∧scope.names.lookup y=some .free
def Pk (names outer:List (Str × NameKind)) (N M:List Str) (x:Str):Bool :=
 names.all (fun y=>decide (y.2≠.cell)) && names.all (fun y=>decide (y.2=.local→names.lookup y.1=some .local)) && decide (names.lookup x=some .local) && decide (x::M).Nodup &&
 names.all (fun y=>decide (y.2=.free→(outer.lookup y.1=some .cell∨outer.lookup y.1=some .free))) && decide (M.length=N.length) &&
 (M.zip N).all (fun p=>decide (names.lookup p.1=some .local∨names.lookup p.1=some .free→p.1=p.2∧names.lookup p.1=some .free))
theorem lG {X:Cx}{scope:Scope}{x:Str}{M:List Str} (hk:scope.kind=.function) (h:Pk scope.names X.env.scope.names X.N M x=true):cM X scope x M:=by
 unfold Pk at h
 simp only [Bool.and_eq_true,List.all_eq_true,decide_eq_true_eq] at h
 obtain⟨⟨⟨⟨⟨⟨h1,h2⟩,h3⟩,h4⟩,h5⟩,h6⟩,h7⟩:=h
 refine⟨hk,h1,h2,h3,h4,fun y hy=>h5 _ hy rfl,h6,fun j y e q=>?_⟩
 have hj:j<M.length:=(List.getElem?_eq_some_iff.mp e).1
 have hj2:j<X.N.length:=by omega
 have z:(M.zip X.N)[j]? = some (y,X.N[j]):=by rw [List.getElem?_zip_eq_some];exact⟨e,by simp [hj2]⟩
 have r:=h7 _ (List.mem_of_getElem? z) q
 exact⟨by rw [List.getElem?_eq_getElem hj2];exact congrArg some r.1.symm,r.2⟩
section
variable {X:Cx}{scope:Scope}{x:Str}{M:List Str}{pins:List (Addr × Obj)}{σ:St}{H₂:Hp}{s₂:Shared}
theorem cM.tM {y:Str}{c:Addr} (h:(gY X.env scope.names []).lookup y=some c):X.env.cells.lookup y=some c:=by
 rcases JW (PySem.mem_of_lookup h) with q | q
 · cases q
 · exact q
theorem cM.MJ (K:cM X scope x M) (ok:X.Ok) {y:Str} (h:(y,NameKind.free)∈scope.names):∃ c,(gY X.env scope.names []).lookup y=some c∧X.env.cells.lookup y=some c:=by
 have e1:∃ c,X.env.cells.lookup y=some c:=ok.has y (K.free y h)
 obtain⟨c,hc⟩:=JX (env:=X.env) (ns:=scope.names) (cs:=[]) (y:=y) (.inr ⟨h,e1⟩)
 have q:∃ c,(gY X.env scope.names []).lookup y=some c:=by
   cases e:(gY X.env scope.names []).lookup y with
   | some c=>exact⟨c,rfl⟩
   | none =>
     rw [List.lookup_eq_none_iff] at e
     have:=e _ hc
     simp at this
 obtain⟨c',hc'⟩:=q
 exact⟨c',hc',cM.tM hc'⟩
theorem cM.closure (K:cM X scope x M) (ok:X.Ok):closureFor scope X.env=pure (gY X.env scope.names []) :=
 MF fun y hy=>by obtain⟨c,_,q⟩:=K.MJ ok hy;exact⟨c,q⟩
theorem Ci (K:cM X scope x M) (I:Inv X pins σ H₂ s₂) {fp:List Addr} (hf:∀ b∈fp,kZ X pins H₂ b) (hfl:∀ b∈fp,b<s₂.heap.objs.size) {C:Addr} (hC:s₂.heap.objs.size≤C) {h₁:Heap}{t:Nat}{m:Str→Option Value} (hn:h₁.Ns C m)
   (hk:∀ b o,s₂.heap.get? b=some o→h₁.get? b=some o):Inv (dW X scope C x M s₂ H₂ fp) [] (none::σ) H₂ { s₂ with heap:=h₁,toks:=t }:=by
 have lt:∀ {b:Addr}{o:Obj},s₂.heap.get? b=some o→b≠C:=fun {b o} e z=>by subst z;exact absurd (Nat.lt_of_lt_of_le (Heap.lt_size e) hC) (Nat.lt_irrefl _)
 have cC:∀ y c,(gY X.env scope.names []).lookup y=some c→c≠C:=fun y c e=>by
   obtain⟨v,o,ho,_⟩:=I.cell y c (cM.tM e)
   exact lt ho
 have sub:∀ b∈frs X.stack,b=X.env.locals∨b∈X.fs:=fun b hb=>List.mem_cons.mp (I.wQ b hb)
 have ok:(dW X scope C x M s₂ H₂ fp).Ok:=by
   refine⟨I.ok.mod,K.kind,I.ok.glob,I.ok.blt,hC,fun y z c h1 h2=>?_,fun y hy=>?_,fun y c z=>?_,I.ok.hd,I.ok.frames,.inl rfl,fun b hb=>⟨?_,fun y c e=>?_⟩,I.bs,Nat.le_trans I.ok.Ql I.sz,fun b o e hb=>?_,fun b hb hb2=>?_,I.stack,I.Hr⟩
   · exact I.ok.inj y z c (cM.tM h1) (cM.tM h2)
   · have hy':(relabel scope X.env).names.lookup y=some .cell∨(relabel scope X.env).names.lookup y=some .free:=hy
     have q:(y,NameKind.free)∈scope.names:=by
       unfold relabel at hy'
       rw [xP] at hy'
       cases e:scope.names.lookup y with
       | none=>rw [e] at hy';simp at hy'
       | some k =>
         have hm:=PySem.mem_of_lookup e
         cases k with
         | free=>exact hm
         | cell=>exact absurd rfl (K.cell _ hm)
         | _=>rw [e] at hy';simp at hy'
     obtain⟨c,q,_⟩:=K.MJ I.ok q
     exact⟨c,q⟩
   · exact Bool.noConfusion (show false=true from z)
   · intro z
     have z':b=C:=z
     subst z'
     exact absurd (Nat.lt_of_lt_of_le (hfl b hb) hC) (Nat.lt_irrefl _)
   · exact (hf b hb).2.2.2.2.1 y c (cM.tM e)
   · have q:=(hf b hb).2.2.2.1
     rcases q with q | q
     · exact I.ok.Rk b o e q
     · exact absurd (Nat.lt_of_lt_of_le (Heap.lt_size (I.ok.bs b o e).1) q) (Nat.lt_irrefl _)
   · rcases sub b hb2 with z | z
     · exact (hf b hb).2.1 z
     · exact (hf b hb).2.2.1 z
 refine⟨ok,rfl,I.bare,Un.kept hk,⟨m,hn,fun i y v e1 e2 e3=>?_⟩,fun y c e=>?_,?_,fun y c e=>?_,fun p hp=>absurd (show p∈([]:List (Addr × Obj)) from hp) (by simp),I.hok.kept hk,?_⟩
 · cases i with
   | zero =>
     have e2':some (none:Option V)=some (some v):=e2
     cases e2'
   | succ j =>
     have e1':M[j]? = some y:=e1
     have e2':σ[j]? = some (some v):=e2
     have e3':(relabel scope X.env).names.lookup y=some .local∨(relabel scope X.env).names.lookup y=some .cell∨(relabel scope X.env).names.lookup y=some .free:=e3
     have q:scope.names.lookup y=some .local∨scope.names.lookup y=some .free:=by
       unfold relabel at e3'
       rw [xP] at e3'
       cases e:scope.names.lookup y with
       | none=>rw [e] at e3';simp at e3'
       | some k =>
         have hm:=PySem.mem_of_lookup e
         cases k with
         | free=>exact .inr rfl
         | «local»=>exact .inl rfl
         | cell=>exact absurd rfl (K.cell _ hm)
         | _=>rw [e] at e3';simp at e3'
     obtain⟨nj,fr⟩:=K.sub j y e1' q
     have hm:=PySem.mem_of_lookup fr
     have kd:=K.free y hm
     have vs:Vis X.env.scope y:=.inr kd
     obtain⟨mo,_,lo⟩:=I.loc
     obtain⟨u,r,l⟩:=lo j y v nj e2' vs
     refine⟨u,r,.inr ⟨?_,?_⟩⟩
     · show (relabel scope X.env).names.lookup y=some .cell∨(relabel scope X.env).names.lookup y=some .free
       unfold relabel
       rw [xP,fr]
       simp only [Option.map_some]
       split
       · exact .inl rfl
       · exact .inr rfl
     · obtain⟨c,q1,q2⟩:=K.MJ I.ok hm
       rcases l with ⟨k,_⟩ | ⟨_,c',q3,z⟩
       · have k':X.env.scope.names.lookup y=some .local:=k
         rcases kd with kd | kd <;> · rw [k'] at kd;cases kd
       · rw [q2] at q3
         cases q3
         obtain⟨oc,ho,hd⟩:=z
         exact⟨c,q1,oc,hk _ _ ho,hd⟩
 · obtain⟨v,oc,ho,hd⟩:=I.cell y c (cM.tM e)
   exact⟨v,oc,hk _ _ ho,hd⟩
 · exact I.hok.fresh hC
 · exact I.jM y c (cM.tM e)
 · show (none::σ).length=(x::M).length
   rw [List.length_cons,List.length_cons,K.len,I.len]
end
end L2
namespace L2
open PySem PySem.Spec PyProof.Rows PySem.Calls
def Yv (wi:TI) (te:TE):TE:=fun σ H Q=>wi σ H fun J H1=>∃ (n:Nat) (W:Nat→List V→Hp→Prop),n≤sizeLine∧W 0 [] H1∧∀ i ys H,i≤n→ys.length=i→W i ys H →
 (J.stop i H∧∀ p,H p=none→Q (.ref p) (upd H p (.lst ys)))∨(J.go i H∧i<n∧∀ x H',J.Ml i H x H'→te (some x::σ) H' fun v Pn=>W (i+1) (ys++[v]) Pn)
section
variable {X:Cx}{scope:Scope}{x:Str}{M:List Str}{pins:List (Addr × Obj)}{σ:St}{H₂:Hp}{s₂:Shared}{elt iter:Expr}{px pos:Pos}{te:TE}{wi:TI}
theorem Cj (K:cM X scope x M) (hc:X.calm=true) (I:Inv X pins σ H₂ s₂) (he:∀ (C:Addr) (s₂:Shared) (H₂:Hp) (fp:List Addr),PE (dW X scope C x M s₂ H₂ fp) elt te)
   {it:Addr}{fp:List Addr}{tn:Nat→Heap→Prop}{J:It} (T:Turn X.prog X.w X.K (.Name x px) J fp it tn) (st:tn 0 s₂.heap) (hf:∀ b∈fp,kZ X pins H₂ b) {n:Nat} (hsz:n≤sizeLine) {W:Nat→List V→Hp→Prop}{F:List V→Hp→Prop}
   (w0:W 0 [] H₂) (turn:∀ i ys H,i≤n→ys.length=i→W i ys H→(J.stop i H∧F ys H)∨(J.go i H∧i<n∧∀ x H',J.Ml i H x H'→te (some x::σ) H' fun v Pn=>W (i+1) (ys++[v]) Pn))
   {E:Value→Shared→Prop}{RR:Value→Addr→Result→Shared→Prop}
   (hRR:∀ (D C:Addr) (s':Shared) (H':Hp) (ys:List V) (m:Str→Option Value),Inv X pins σ (upd H' D (.lst ys)) s'→H' D=none→kZ X pins (upd H' D (.lst ys)) C→s'.heap.Ns C m→F ys H'→RR (.ref D) C (.ok .next) s') :
   wpAny (model X.prog X.w) X.A (newList []) (fun acc s₃=>wpAny (model X.prog X.w) X.A (newFunctionEnv scope X.env.globals (gY X.env scope.names []) [] X.env.qual none .none (some X.env)) (fun cenv s₄ =>
     codeAny (model X.prog X.w) X.A (.compStart (.ListComp elt [⟨.Name x px,iter,[],0⟩] scope pos) 0 (.ref it) acc { cenv with scope:=relabel scope X.env }) (RR acc cenv.locals) s₄) E s₃) E s₂:=by
 refine wpAny_newObj_type (wpAny_newFunctionEnv K.cell (by intro y hy;simp at hy) (fun h₁ hns₁ hsb₁=>?_) K.kind)
 dsimp only at hns₁ hsb₁ ⊢
 generalize hH2:s₂.heap.push { cls:=.type "list",dict:=none,data:=.seq ([]:List Value).toArray } = H2 at hns₁ hsb₁ ⊢
 have hC:H2.objs.size=s₂.heap.objs.size+1:=by rw [← hH2,Heap.size_push]
 have hDC:s₂.heap.objs.size≠H2.objs.size:=by rw [hC];exact Nat.ne_of_lt (Nat.lt_succ_self _)
 have below:∀ b,b<s₂.heap.objs.size→b≠H2.objs.size∧b≠s₂.heap.objs.size:=fun b hb=>⟨by rw [hC];exact Nat.ne_of_lt (Nat.lt_succ_of_lt hb),Nat.ne_of_lt hb⟩
 have hfl:∀ b∈fp,b<s₂.heap.objs.size:=fun b hb=>by obtain⟨o,e,_⟩:=T.obj _ _ st b hb;exact Heap.lt_size e
 have old:∀ b o,s₂.heap.get? b=some o→h₁.get? b=some o:=fun b o e=>hsb₁.extBut b o (below b (Heap.lt_size e)).1 (Heap.get?_push_of_some _ (hH2 ▸ Heap.get?_push_of_some _ e))
 have hacc:h₁.get? s₂.heap.objs.size=some { cls:=.type "list",data:=.seq ([]:List Value).toArray 0 }:=hsb₁.extBut _ _ hDC (Heap.get?_push_of_some _ (hH2 ▸ Heap.get?_push_size _ rfl))
 generalize hCC:H2.objs.size=C at *
 generalize tO:s₂.heap.objs.size=D at *
 have hCle:s₂.heap.objs.size≤C:=by rw [tO,hC];exact Nat.le_succ _
 have st₁:tn 0 h₁:=T.keep _ _ _ st fun b _ o e=>old b o e
 have I₁:=Ci (t:=s₂.toks+([]:List (Str × Value)).length) K I hf (fun b hb=>by rw [tO];exact hfl b hb) hCle hns₁ old
 generalize hX':dW X scope C x M s₂ H₂ fp=X' at I₁
 have eX:X'.prog=X.prog∧X'.w=X.w∧X'.K=X.K∧X'.calm=true∧X'.A=X.A∧X'.ex=fp∧X'.env=compEnvC scope (gY X.env scope.names []) C X.env∧X'.s₀=s₂∧X'.pn=[]:=by
   subst hX';exact⟨rfl,rfl,rfl,hc,rfl,rfl,rfl,rfl,rfl⟩
 obtain⟨eP,ew,eK,ec,eA,eex,Am,Yw,R4⟩:=eX
 have eL:X'.env.locals=C:=by rw [Am];rfl
 have cells':∀ y c,X'.env.cells.lookup y=some c→X.env.cells.lookup y=some c:=fun y c e=>by rw [Am] at e;exact cM.tM e
 have efs:X'.fs=frs X.stack:=by subst hX';rfl
 have vB:∀ b∈X'.fs,b=X.env.locals∨b∈X.fs:=fun b hb=>List.mem_cons.mp (I.wQ b (by rw [← efs];exact hb))
 have Ck:∀ {pn:List (Addr × Obj)}{H':Hp},(∀ p∈pn,p.1=D)→(∀ b∈fp,H' b=none)→∀ b∈fp,kZ X' pn H' b:=fun {pn H'} hp hn b hb=>by
   refine⟨hn b hb,?_,fun z=>?_,.inl (by rw [eex];exact hb),fun y c e=>(hf b hb).2.2.2.2.1 y c (cells' y c e),fun p hq=>?_⟩
   · rw [eL];exact (below b (hfl b hb)).1
   · rcases vB b z with q | q
     · exact (hf b hb).2.1 q
     · exact (hf b hb).2.2.1 q
   · rw [R4,List.nil_append] at hq
     rw [hp p hq];exact Ne.symm (below b (hfl b hb)).2
 have Dfp:D∉fp:=fun z=>Nat.lt_irrefl _ (hfl D z)
 have JZ:X.env.locals<D:=by have:=I.lt;rw [tO] at this;exact this
 have R6:∀ b∈X.fs,b<D:=fun b hb=>Nat.lt_of_not_le fun z=>I.Wf (a:=b) (by rw [tO];exact z) hb
 have J0:∀ {b:Addr}{pn:List (Addr × Obj)}{H':Hp},D≤b→b≠C→H' b=none→(∀ p∈pn,p.1≠b)→kZ X' pn H' b:=fun {b pn H'} hb hbC hn hp=>by
   refine⟨hn,by rw [eL];exact hbC,fun z=>?_,.inr (by rw [Yw,tO];exact hb),fun y c e=>?_,fun p hq=>?_⟩
   · rcases vB b z with q | q
     · rw [q] at hb;exact absurd (Nat.lt_of_lt_of_le JZ hb) (Nat.lt_irrefl _)
     · exact absurd (Nat.lt_of_lt_of_le (R6 b q) hb) (Nat.lt_irrefl _)
   · obtain⟨v,o,ho,_⟩:=I.cell y c (cells' y c e)
     have:=Heap.lt_size ho
     rw [tO] at this
     exact Nat.ne_of_lt (Nat.lt_of_lt_of_le this hb)
   · rw [R4,List.nil_append] at hq
     exact hp p hq
 have outer:∀ {σ':St}{H':Hp}{s':Shared}{pn:List (Addr × Obj)},Inv X' pn σ' H' s'→Inv X pins σ H' s':=fun {σ' H' s' pn} J'=>by
   subst hX'
   refine I.call' (ch:=fp) J'.os J'.base J'.hok J'.bare fun b hb=>?_
   obtain⟨f0,f1,f2,f3,f4,f5⟩:=hf b hb
   exact⟨f3,f1,f4,f5⟩
 have zp:∀ {b:Addr}{H':Hp},D≤b→H' b=none→kZ X pins H' b:=fun {b H'} hb hn=>by
   have q:=I.JC (H':=H') (b:=b) (by rw [tO];exact hb) hn
   exact q
 have loop:∀ s₃:Shared,s₃={ s₂ with heap:=h₁,toks:=s₂.toks+([]:List (Str × Value)).length } →
     codeAny (model X.prog X.w) X.A (.compLoop (.ListComp elt [⟨.Name x px,iter,[],0⟩] scope pos) 0 (.ref it) (.ref D) (compEnvC scope (gY X.env scope.names []) C X.env)) (RR (.ref D) C) s₃:=by
   rintro s₃ rfl
   refine JV (fun k s'=>∃ (i:Nat) (ys:List V) (its:List Value) (σ0:Option V) (H':Hp),i≤n∧k=n+1 - i∧ys.length=i∧Inv X' [] (σ0::σ) H' s'∧tn i s'.heap∧(∀ b∈fp,H' b=none)∧H' D=none∧Vals ys its ∧
     (∃ c,s'.heap.get? D=some { cls:=.type "list",data:=.seq its.toArray c })∧W i ys H') ?_ (n+1) ⟨0,[],[],none,H₂,Nat.zero_le _,rfl,rfl,I₁,st₁,fun b hb=>(hf b hb).1,by rw [← tO];exact I.hok.fresh (Nat.le_refl _),.nil,⟨0,hacc⟩,w0⟩
   rintro k s' ⟨i,ys,its,σ0,H',hi,rfl,hyl,I',st',fr',hD',rv,⟨c,hobj⟩,w'⟩
   have hx0:X'.N[0]? = some x:=by subst hX';rfl
   have hxl:X'.env.scope.names.lookup x=some .local:=by rw [Am];exact lookup_relabel_local K.loc
   have hNd:X'.N.Nodup:=by subst hX';exact K.nd
   rcases turn i ys H' hi hyl w' with ⟨stop,fin⟩ | ⟨go,hlt,step⟩
   · have Cm:Inv X' [(D,{ cls:=.type "list",data:=.seq its.toArray c })] (σ0::σ) H' s':=I'.gm fun p hp=>by
       obtain rfl:p=(D,{ cls:=.type "list",data:=.seq its.toArray c }):=by simpa using hp
       refine⟨hobj,hD',?_,?_,fun v z=>nomatch z⟩
       · rw [eL];exact hDC
       · intro z
         rcases vB D z with q | q
         · rw [q] at JZ;exact Nat.lt_irrefl _ JZ
         · exact Nat.lt_irrefl _ (R6 D q)
     have q:=T.done X' eP ew eK ec i _ s' (σ0::σ) H' (notedBy (model X.prog X.w) X.A (compEnvC scope (gY X.env scope.names []) C X.env) fun e s'=>RR (.ref D) C (.error e) s') Cm (Ck (fun p hp=>by obtain rfl:p=(D,{ cls:=.type "list",data:=.seq its.toArray c }):=(by simpa using hp);rfl) fr') st' stop
     rw [eA] at q
     refine wpAny_mono q (fun r s4 ⟨hr,I4⟩=>?_) fun _ _ z=>z
     subst hr
     obtain⟨e4,n4,_⟩:=I4.pin (D,{ cls:=.type "list",data:=.seq its.toArray c }) (List.mem_append_right _ (by simp))
     have O4:=outer I4
     obtain⟨m4,Yx,_⟩:=I4.loc
     rw [eL] at Yx
     refine hRR D C s4 H' ys m4 (O4.track (zp (Nat.le_refl _) n4) (Nat.le_trans I.sz (by rw [tO];exact Nat.le_refl _)) ⟨by rw [hyl];exact Nat.le_trans hi hsz,its,c,rv,e4⟩) n4 (zp (by rw [hC];exact Nat.le_succ _) ?_) Yx fin
     rw [zI (Ne.symm hDC)]
     have:=I4.free
     rw [eL] at this
     exact this
   · have Cm:Inv X' [(D,{ cls:=.type "list",data:=.seq its.toArray c })] (σ0::σ) H' s':=I'.gm fun p hp=>by
       obtain rfl:p=(D,{ cls:=.type "list",data:=.seq its.toArray c }):=by simpa using hp
       refine⟨hobj,hD',?_,?_,fun v z=>nomatch z⟩
       · rw [eL];exact hDC
       · intro z
         rcases vB D z with q | q
         · rw [q] at JZ;exact Nat.lt_irrefl _ JZ
         · exact Nat.lt_irrefl _ (R6 D q)
     have pd:∀ p∈[(D,({ cls:=.type "list",data:=.seq its.toArray c }:Obj))],p.1=D:=fun p hp=>by obtain rfl:p=(D,{ cls:=.type "list",data:=.seq its.toArray c }):=(by simpa using hp);rfl
     have q:=T.item X' eP ew eK ec i _ s' (σ0::σ) H' (notedBy (model X.prog X.w) X.A (compEnvC scope (gY X.env scope.names []) C X.env) fun e s'=>RR (.ref D) C (.error e) s') Cm (Ck pd fr') st' go
     rw [eA] at q
     refine wpAny_mono q (fun r s4 ⟨u,hr,h4⟩=>?_) fun _ _ z=>z
     subst hr
     refine wpAny_mono h4 (fun _ s5 ⟨xv,H5,I5,r5,y5,Hu,ZL⟩=>?_) fun _ _ z=>z
     have ZM:=I5.pinned (Ck pd ZL) (T.obj _ _ Hu)
     refine wpAny_assign_Name ?_
     rw [← Am]
     refine vg ZM hNd hx0 (.inl hxl) r5 (fun s6 I6=>?_) (.inr hxl)
     have te6:=step xv H5 y5
     have q6:=(he C s₂ H₂ fp) (([(D,({ cls:=.type "list",data:=.seq its.toArray c }:Obj))])++o8 fp s5.heap) s6 (some xv::σ) H5 (fun v Pn=>W (i+1) (ys++[v]) Pn) (by rw [hX'];exact I6) te6
     rw [hX',eP,ew,eA] at q6
     refine wpAny_mono q6 (fun u7 s7 ⟨v7,H7,I7,r7,w7⟩=>?_) (fun _ _ z=>by subst hX';exact (show False from z).elim)
     obtain⟨e7,n7,_⟩:=I7.pin (D,{ cls:=.type "list",data:=.seq its.toArray c }) (List.mem_append_right _ (List.mem_append_left _ (by simp)))
     refine append_at (hsz:=by rw [List.size_toArray,← rv.length,hyl];exact Nat.le_trans hi hsz) e7 fun h8 Yy g8=>?_
     have I8:Inv X' [] (some xv::σ) H7 { s7 with heap:=h8,toks:=s7.toks }:=(I7.gm (BJ:=[]) fun p hp=>absurd hp (by simp)).turned (t':=s7.toks) (it:=D) (fun b o hb e=>(Yy.2 b hb).trans e) n7 (by rw [eL];exact hDC) (.inr (by rw [Yw,tO];exact Nat.le_refl _))
       (J0 (H':=H7) (pn:=[]) (Nat.le_refl _) hDC n7 (fun p hp=>absurd hp (by simp))).2.2.2.2.1 (fun p hp=>by rw [R4] at hp;exact absurd hp (by simp))
     refine⟨n+1 - (i+1),by omega,i+1,ys++[v7],its++[u7],some xv,H7,hlt,rfl,by rw [List.length_append,List.length_singleton,hyl],I8,?_,fun b hb=>?_,n7,rv.append (.cons r7 .nil),⟨c+1,?_⟩,w7⟩
     · refine T.keep _ _ _ Hu fun b hb o e=>?_
       have e':=(I7.pin (b,o) (List.mem_append_right _ (List.mem_append_right _ (yP hb e)))).1
       exact (Yy.2 b (fun z=>Dfp (z ▸ hb))).trans e'
     · obtain⟨o,e,d⟩:=T.obj _ _ Hu b hb
       exact (I7.pin (b,o) (List.mem_append_right _ (List.mem_append_right _ (yP hb e)))).2.1
     · rw [g8,List.push_toArray]
 exact codeAny_compStart_list (loop _ rfl) (T.self X.A 0 _ _ _ st₁ (loop _ rfl))
theorem WD (K:cM X scope x M) (hc:X.calm=true) (hi:PI X (.Name x px) iter wi) (he:∀ (C:Addr) (s₂:Shared) (H₂:Hp) (fp:List Addr),PE (dW X scope C x M s₂ H₂ fp) elt te)
   (hs:∀ x,foldedSetIterable iter X.env x=pure x:=by intro _;rfl):PE X (.ListComp elt [⟨.Name x px,iter,[],0⟩] scope pos) (Yv wi te):=by
 intro pins s σ H Q I h
 rw [eval_ListComp]
 refine wpAny_comprehension_free (use:=none) rfl hs (K.closure I.ok) K.kind K.names (dO (hi pins s σ H _ I h) fun v s1 h1=>dO h1 fun itv s2 h2=>?_)
 obtain⟨it,fp,tn,J,H2,e,I2,T,st2,f2,n,W,hsz,w0,turn⟩:=h2
 subst e
 refine Cj (RR:=fun acc C=>compPost (model X.prog X.w) X.A X.xe none (EP X pins σ Q) acc C) K hc I2 he T st2 f2 hsz (F:=fun ys H=>∀ p,H p=none→Q (.ref p) (upd H p (.lst ys))) w0 turn ?_
 intro D C s' H' ys m I' n' fC ns fin
 refine⟨m,ns,fun h' sb=>?_⟩
 obtain⟨f0,f1,f2,f3,f4,f5⟩:=fC
 exact⟨.ref D,_,I'.turned (t':=s'.toks) (it:=C) (fun b o hb e=>(sb.2 b hb).trans e) f0 f1 f3 f4 f5,rfl,fin D n'⟩
theorem WK {i:Nat}{y:Str}{spos py:Pos} (hN:X.N.Nodup) (hy:X.N[i]? = some y) (hl:Loc X.env.scope y) (K:cM X scope x M) (hc:X.calm=true) (hi:PI X (.Name x px) iter wi) (he:∀ (C:Addr) (s₂:Shared) (H₂:Hp) (fp:List Addr),PE (dW X scope C x M s₂ H₂ fp) elt te)
   (hsw:swapsWith (.ListComp elt [⟨.Name x px,iter,[],0⟩] scope pos) (some (.Name y py)) spos.line X.env=pure true:=by rfl)
   (hs:∀ x,foldedSetIterable iter X.env x=pure x:=by intro _;rfl) (hf:X.fn y=true∨X.env.scope.names.lookup y=some .local:=by first | exact .inl rfl | exact .inr rfl | assumption) :
   PS X (.Assign [.Name y py] (.ListComp elt [⟨.Name x px,iter,[],0⟩] scope pos) spos) (Qo (Yv wi te) (bO i)):=by
 intro pins s σ H Dn I h
 rw [exec_Assign_Name_used _ _ _ _ hsw]
 refine wpAny_bind (wpAny_standAt (wpAny_bind ?_))
 show wpAny _ X.A (do let _ ← comprehension (.ListComp elt [⟨.Name x px,iter,[],0⟩] scope pos) scope X.env _ (newList []) false (eval iter X.env) (some (assign (.Name y py) X.env))) _ _ s
 refine wpAny_bind (dO (wpAny_comprehension_free (use:=some (assign (.Name y py) X.env)) (Q:=fun _ s'=>SP X pins Dn .next s') rfl hs (K.closure I.ok) K.kind K.names (dO (hi pins s σ H _ I h) fun v s1 h1=>dO h1 fun itv s2 h2=>?_)) fun _ s' hq=>wpAny_pure (wpAny_pure hq))
 obtain⟨it,fp,tn,J,H2,e,I2,T,st2,f2,n,W,hsz,w0,turn⟩:=h2
 subst e
 refine Cj (RR:=fun acc C=>compPost (model X.prog X.w) X.A X.xe (some (assign (.Name y py) X.env)) (fun _ s'=>SP X pins Dn .next s') acc C) K hc I2 he T st2 f2 hsz (F:=fun ys H=>∀ p,H p=none→Dn.nx (σ.set i (some (.ref p))) (upd H p (.lst ys))) w0 turn ?_
 intro D C s' H' ys m I' n' fC ns fin
 refine wpAny_assign_Name (wR (v:=.ref D) I' hN hy hl rfl (fun s'' I'' ch=>?_) hf)
 obtain⟨f0,f1,f2,f3,f4,f5⟩:=fC
 obtain⟨a,sb1,ha⟩:=ch
 have hCa:C≠a:=by
   rcases ha with z | z
   · rw [z];exact f1
   · exact Ne.symm (f4 y a z)
 refine⟨m,ns.sameBut sb1 hCa,fun h' sb=>?_⟩
 exact⟨_,_,I''.turned (t':=s''.toks) (it:=C) (fun b o hb e=>(sb.2 b hb).trans e) f0 f1 f3 f4 f5,fin D n'⟩
end
end L2
namespace L2
open PySem PySem.Spec PyProof.Rows PySem.Calls
def S (l:List Nat):Str:=⟨l.toArray⟩
abbrev cd (x:Str):List Nat:=x.cps.toList
theorem Z6 (l:List Nat):cd (S l)=l:=rfl
theorem adH (x:Str):S (cd x)=x:=by cases x;rfl
theorem Yz (l:List Nat):(S l).length=l.length:=by show l.toArray.size=_;simp
theorem lM (x:Str):x.length=(cd x).length:=by show x.cps.size=_;simp
theorem wX (x y:Str):cd (x++y)=cd x++cd y:=by
 show (x.cps++y.cps).toList=_
 simp
section
variable {X:Cx}{tg:Expr}
end
section
variable {X:Cx}
theorem R7 (hc:X.calm=true):cQ X (.builtin "all") (fun xs H Q=>∃ (p:Addr) (bs:List Bool),xs=[.ref p]∧cB X.K H p (bs.map V.bl)∧Q (.bl (bs.all id)) H):=by
 intro pins s σ H xs us Q I r h
 obtain⟨p,bs,rfl,hq,q⟩:=h
 obtain⟨u,rfl,ru⟩:=vals1 r
 cases ru
 obtain⟨its,rv,pl,hz⟩:=I.list hq
 have hlt:p<s.heap.objs.size:=by obtain⟨o,n,e,_⟩:=pl;exact Heap.lt_size e
 refine call_all_walk (wpAny_pyIter_list pl.isList ?_)
 refine⟨_,_,_,_,_,_,fun i=>bs.getD i false,rfl,Walks.list (show X.A.in1.handled=none from I.ok.hd hc) s.heap.objs.size p (Nat.ne_of_lt hlt) its.toArray,⟨⟨_,Heap.get?_push_size _ rfl,rfl,rfl⟩,pl.isList.push _⟩,fun i v s1 Q1 E1 hP hQ=>?_,fun h' tk k=>?_⟩
 · have hP':its[i]? = some v:=by simpa using hP
   obtain⟨hi,_⟩:=List.getElem?_eq_some_iff.mp hP'
   have hl:=rv.length
   rw [List.length_map] at hl
   have hb:(bs.map V.bl)[i]? = some (V.bl (bs.getD i false)):=by
     rw [List.getElem?_map,List.getElem?_eq_getElem (by omega)]
     simp [List.getD,List.getElem?_eq_getElem (show i<bs.length by omega)]
   obtain⟨u,hu,ru⟩:=rv.get hb
   rw [hP'] at hu
   cases hu
   cases (show v=Value.bool _ from ru)
   exact wpAny_truthy_bool hQ
 · have e:(List.range its.toArray.size).all (fun i=>bs.getD i false)=bs.all id:=by
     have hl:=rv.length
     rw [List.length_map] at hl
     rw [List.size_toArray,← hl]
     have z:bs=(List.range bs.length).map fun i=>bs.getD i false:=by
       apply List.ext_getElem?
       intro i
       rw [List.getElem?_map]
       by_cases hi:i<bs.length
       · simp [List.getElem?_eq_getElem,hi,List.getD]
       · rw [List.getElem?_eq_none (Nat.not_lt.mp hi),List.getElem?_eq_none (by rw [List.length_range];exact Nat.not_lt.mp hi)];rfl
     conv=>rhs;rw [z]
     rw [List.all_map];rfl
   rw [e]
   refine⟨.bl (bs.all id),H,?_,rfl,q⟩
   have I0:Inv X pins σ H { s with heap:=s.heap.push { cls:=.type "list_iterator",data:=.fields #[.ref p,.int 0 0] } }:=I.kept (t':=s.toks) fun b o e=>Heap.get?_push_of_some _ e
   have fo:=I.JC (H':=H) (b:=s.heap.objs.size) (Nat.le_refl _) I.fresh
   obtain⟨f0,f1,f2,f3,f4,f5⟩:=fo
   exact I0.turned (t':=tk) (it:=s.heap.objs.size) (fun b o hb e=>k b o (by simpa using hb) e) f0 f1 f3 f4 f5
theorem HH:jc X (binaryOp .Mult) (rI (fun i j=>Builtin.Int.intBits i≤60000000∧Builtin.Int.intBits j≤60000000) fun i j=>.int (i*j)):=opI fun i j _ _ _ _ _ hc q=>mul_int q (IntMulOk.of_le hc.1 hc.2 (by decide))
def adI (xs:List Nat) (lo hi:Option Int):List Nat:=(xs.drop (HT.je xs.length 0 lo)).take (HT.je xs.length xs.length hi - HT.je xs.length 0 lo)
end
end L2
namespace Att
open PySem PySem.W PySem.Calls PyProof.Rows
theorem J1 {ns:List Int} (h:WData.layableAll [WData.list (ns.map WData.int)]=true):∀ n∈ns,Builtin.Int.intBits n≤1048576:=by
 have h1:(WData.list (ns.map WData.int)).layable=true:=by simpa [WData.layableAll] using h
 intro n hn
 have h2:=layableW_item h1 (.int n) (List.mem_map.mpr ⟨n,hn,rfl⟩)
 have h3:=(layableW_iff.mp h2).2.2
 simpa [WData.weight,Builtin.Int.intBits] using h3
theorem HJ {l:OpenLaw}{n:Nat}{q:Program}{loose:List Str}{XP:(Str→Option Value)→Heap→Prop}{YP:World→Heap→Prop}{d:DefRec}
   (hn:l.most=some n) (hdf:d.params.defaults=[])
   (call:∀ (w:World) (s₀ s₁:Shared) (mg mb:Str→Option Value) (fa:Addr) (o:Obj) (pm cd doc:Value) (a:Addr) (vs:List Value) (ns:List Int),
     Ground q loose [] XP w s₀ mg mb s₁.heap→YP w s₁.heap →
     s₁.heap.get? fa=some o→o.data=.func (docDef d.name d.params d.body d.scope pm cd doc)→s₁.heap.CodeRec cd d.name→mg d.name=some (.ref fa) →
     s₁.heap.get? a=some { cls:=.type "list",data:=.seq vs.toArray }→IntsAre vs ns→ns.length≤n→(∀ n∈ns,Builtin.Int.intBits n≤1048576)→s₁.gens=#[] →
     codeAny (model l.prog w) callerA (.call (.ref fa) ⟨[.ref a],[]⟩) (fun r s'=>r=.ok (.ret (.bool true))∧OldK s₁.heap s'.heap∧s'.os=s₁.os∧AllBare s'.gens) s₁) :
   WalkO q loose XP YP l.row.toRowW d [] (fun f vs=>PySem.call f vs):=by
 intro w s₀ s₁ mg mb G Y fa o pm cd doc dV kV ho hd hcd hD hmg hg args vals as hpre hlay hrd hwl hlo
 obtain rfl:dV=.none:=Dflts.none hD hdf
 obtain rfl:kV=.none:=Dflts.noKw hD
 obtain⟨a,vs,ns,rfl,rfl,hobj,hints,hlen⟩:=QC hn hpre hwl
 refine enter_call (codeAny_mono (call w s₀ s₁ mg mb fa o pm cd doc a vs ns G Y ho (fd_plain hd) hcd hmg hobj hints hlen (J1 hlay) hg) fun r s' hq=>?_)
 obtain⟨rfl,h2,h3,h4⟩:=hq
 exact⟨.inl ⟨.bool true,.bool true,[],rfl,fun _=>rfl,.bool true,QD l _,fun _=>⟨List.Pairwise.nil,fun _ hm=>(nomatch hm)⟩⟩,h2,h3,h4⟩
end Att
namespace L2
open PySem PySem.Spec PyProof.Rows
def Cp (mg:Str→Option Value) (x:Str) (v:V):Prop:=∃ u,mg x=some u∧RelV v u
theorem zr {X:Cx}{x:Str}{v:V}{pos:Pos} (hg:Gl X x) (h:Cp X.mg x v) (hd:(x == ("__debug__":Str))=false:=by decide):PE X (.Name x pos) (tC v):=by
 obtain⟨u,hm,r⟩:=h
 exact Wg hg hm r hd
theorem eY.mod {K:PySem.W.Frag}{a:Addr}{oc:Value}{od:Option Addr}{its:Array Value}{n:Nat}{sl:Array (Option Value)}{xs:List V} (h:K.lookup a=some ⟨oc,od,.seq its n,sl⟩) (hc:oc=.type "tuple") (hz:its.size≤sizeLine) (hv:Vals xs its.toList) (H:Hp):eY K H a xs :=
 .inr ⟨_,its,n,h,hc,rfl,hz,hv⟩
theorem aB.tup {K:PySem.W.Frag}{H H':Hp}{a:Addr}{xs:List V} (e:aB H H') (h:eY K H a xs):eY K H' a xs:=by
 rcases h with (h | ⟨o,h⟩) | h
 · exact .inl (.inl (e _ _ h))
 · exact .inl (.inr ⟨o,e _ _ h⟩)
 · exact .inr h
theorem zG {H:Hp}{p:Addr} (h:H p=none) (o:HO):aB H (upd H p o):=fun b u q=>by rw [zI (zH q h)];exact q
namespace Bt
theorem int:bootBuiltins "int" = some (.type "int"):=PyProof.Rows.boot_int
theorem bool:bootBuiltins "bool" = some (.type "bool"):=PyProof.Rows.boot_bool
theorem str:bootBuiltins "str" = some (.type "str"):=PyProof.Rows.boot_str
theorem list:bootBuiltins "list" = some (.type "list"):=PyProof.Rows.boot_list
theorem tuple:bootBuiltins "tuple" = some (.type "tuple"):=PyProof.Rows.boot_tuple
theorem dict:bootBuiltins "dict" = some (.type "dict"):=PyProof.Rows.boot_dict
theorem set:bootBuiltins "set" = some (.type "set"):=PyProof.Rows.boot_set
theorem isinstance:bootBuiltins "isinstance" = some (.builtin "isinstance"):=PyProof.Rows.boot_isinstance
theorem all:bootBuiltins "all" = some (.builtin "all"):=PyProof.Rows.boot_all
theorem abs:bootBuiltins "abs" = some (.builtin "abs"):=PyProof.Rows.Boot.«abs»
end Bt
end L2
namespace L2
open PySem PySem.Spec PyProof.Rows
abbrev ib (x:Int):Nat:=Builtin.Int.intBits x
theorem R8 {x:Int} (h1:-(2 ^ 64)<x) (h2:x<2 ^ 64):ib x≤64:=intBits_le_64 h1 h2
theorem Z7 {m:Nat}{x:Int} (h:x.natAbs<2 ^ m):ib x≤m:=intBits_le_iff.mpr h
theorem vC {α:Type}{l:List α}{i:Int} (h0:0≤i) (h1:i<l.length):∃ c,jD l i=some c∧l[i.toNat]? = some c:=by
 have hk:i.toNat<l.length:=by omega
 refine⟨l[i.toNat],?_,List.getElem?_eq_getElem hk⟩
 have e:i=((i.toNat:Nat):Int):=by omega
 have q:jD l ((i.toNat:Nat):Int)=some l[i.toNat]:=zV (List.getElem?_eq_getElem hk)
 rw [← e] at q
 exact q
theorem aB.ty {K:PySem.W.Frag}{H H':Hp}{x:V}{t:Value} (e:aB H H') (h:aD K H x t):aD K H' x t:=by
 cases h with
 | non=>exact .non
 | bl x=>exact .bl x
 | int i=>exact .int i
 | str x=>exact .str x
 | flt x=>exact .flt x
 | lst q=>exact .lst (e _ _ q)
 | sI q=>exact .sI (e _ _ q)
 | tup q=>exact .tup (e _ _ q)
 | dK q=>exact .dK (e _ _ q)
 | dT q=>exact .dT (e _ _ q)
 | ins q a b c d f=>exact .ins (e _ _ q) a b c d f
theorem yL {n m:Nat} (h:n≤m) (hm:m≤16777216:=by decide):n≤sizeLine:=by rw [sizeLine_eq];omega
structure YB (J:It) (te:TE) (σ:St) (H1:Hp) (Q:VK):Prop where
 ex:∃ (n:Nat) (W:Nat→List V→Hp→Prop),n≤sizeLine∧W 0 [] H1∧∀ i ys H,i≤n→ys.length=i→W i ys H →
   (J.stop i H∧∀ p,H p=none→Q (.ref p) (upd H p (.lst ys)))∨(J.go i H∧i<n∧∀ x H',J.Ml i H x H'→te (some x::σ) H' fun v Pn=>W (i+1) (ys++[v]) Pn)
def R9 (wi:TI) (te:TE):TE:=fun σ H Q=>wi σ H fun J H1=>YB J te σ H1 Q
structure Z8 (J:It) (g:TG) (tb:TS) (D:Ends) (σ:St) (H1:Hp):Prop where
 ex:∃ W:Nat→Nat→St→Hp→Prop,(∃ m,W 0 m σ H1)∧∀ i m σ H,W i m σ H →
   (J.stop i H∧D.nx σ H)∨(J.go i H∧∃ N:St→Hp→Prop,(∀ σ' H',N σ' H'→∃ m',m'<m∧W (i+1) m' σ' H')∧∀ x H',J.Ml i H x H'→g x σ H' fun σ2 H2=>tb { D with nx:=N,ct:=N,bk:=D.nx } σ2 H2)
def adJ (wi:TI) (g:TG) (tb:TS):TS:=fun D σ H=>wi σ H fun J H1=>Z8 J g tb D σ H1
structure Z9 (c:TT) (tb:TS) (D:Ends) (σ:St) (H:Hp):Prop where
 ex:Rr c tb D σ H
def WL (c:TT) (tb:TS):TS:=fun D σ H=>Z9 c tb D σ H
theorem PI.weak {X:Cx}{tg iter:Expr}{wi:TI} (h:PI X tg iter wi) {pins:List (Addr × Obj)}{s:Shared}{σ:St}{H:Hp}{R R':It→Hp→Prop} (I:Inv X pins σ H s) (hw:wi σ H R) (hR:∀ J H1,R J H1→R' J H1) :
   wpAny (model X.prog X.w) X.A (eval iter X.env) (fun v s1=>wpAny (model X.prog X.w) X.A (pyIter v) (PIE X pins σ tg R') X.xe s1) X.xe s:=by
 refine dO (h pins s σ H R I hw) fun v s1 h1=>dO h1 fun itv s2 zq=>?_
 obtain⟨it,fp,tn,J,H',e,I',T,st,f,r⟩:=zq
 exact⟨it,fp,tn,J,H',e,I',T,st,f,hR J H' r⟩
section
variable {X:Cx}{scope:Scope}{x:Str}{M:List Str}{elt iter:Expr}{px pos:Pos}{te:TE}{wi:TI}
theorem vD {tg:Expr}{wi wi':TI} (h:PI X tg iter wi) (hw:∀ σ H R,wi' σ H R→∃ R0,wi σ H R0∧∀ J H1,R0 J H1→R J H1):PI X tg iter wi':=by
 intro pins s σ H R I q
 obtain⟨R0,q0,hR⟩:=hw σ H R q
 exact h.weak I q0 hR
theorem Sd (K:cM X scope x M) (hc:X.calm=true) (hi:PI X (.Name x px) iter wi) (he:∀ (C:Addr) (s₂:Shared) (H₂:Hp) (fp:List Addr),PE (dW X scope C x M s₂ H₂ fp) elt te)
   (hs:∀ x,foldedSetIterable iter X.env x=pure x:=by intro _;rfl):PE X (.ListComp elt [⟨.Name x px,iter,[],0⟩] scope pos) (R9 wi te):=by
 intro pins s σ H Q I h
 have q:=WD (pos:=pos) K hc (wi:=fun σ0 H0 R0=>∃ R,wi σ0 H0 R∧∀ J H1,R J H1→R0 J H1) (vD hi fun σ H R ⟨R1,a,b⟩=>⟨R1,a,b⟩) he hs pins s σ H Q I
 exact q ⟨_,h,fun J H1 r=>r.ex⟩
theorem Sh {i:Nat}{y:Str}{spos py:Pos} (hN:X.N.Nodup) (hy:X.N[i]? = some y) (hl:Loc X.env.scope y) (K:cM X scope x M) (hc:X.calm=true) (hi:PI X (.Name x px) iter wi) (he:∀ (C:Addr) (s₂:Shared) (H₂:Hp) (fp:List Addr),PE (dW X scope C x M s₂ H₂ fp) elt te)
   (hsw:swapsWith (.ListComp elt [⟨.Name x px,iter,[],0⟩] scope pos) (some (.Name y py)) spos.line X.env=pure true:=by rfl)
   (hs:∀ x,foldedSetIterable iter X.env x=pure x:=by intro _;rfl) (hf:X.fn y=true∨X.env.scope.names.lookup y=some .local:=by first | exact .inl rfl | exact .inr rfl | assumption) :
   PS X (.Assign [.Name y py] (.ListComp elt [⟨.Name x px,iter,[],0⟩] scope pos) spos) (Qo (R9 wi te) (bO i)):=by
 intro pins s σ H D I h
 have q:=WK (pos:=pos) (spos:=spos) hN hy hl K hc (wi:=fun σ0 H0 R0=>∃ R,wi σ0 H0 R∧∀ J H1,R J H1→R0 J H1) (vD hi fun σ H R ⟨R1,a,b⟩=>⟨R1,a,b⟩) he hsw hs hf pins s σ H D I
 exact q ⟨_,h,fun J H1 r=>r.ex⟩
theorem lu {tg:Expr}{body:List Stmt}{g:TG}{tb:TS} (hp:PassesOwn (model X.prog X.w) X.A X.env X.xe) (hc:X.calm=true) (hi:PI X tg iter wi) (hg:PG X tg g) (hb:o6 X body tb)
   (hs:∀ x,foldedSetIterable iter X.env x=pure x:=by intro _;rfl):PS X (.For tg iter body [] pos) (adJ wi g tb):=by
 intro pins s σ H D I h
 have q:=ZK (pos:=pos) hp hc (wi:=fun σ0 H0 R0=>∃ R,wi σ0 H0 R∧∀ J H1,R J H1→R0 J H1) (vD hi fun σ H R ⟨R1,a,b⟩=>⟨R1,a,b⟩) hg hb hs pins s σ H D I
 exact q ⟨_,h,fun J H1 r=>r.ex⟩
theorem wY {c:Expr}{body:List Stmt}{tc:TT}{tb:TS} (hp:PassesOwn (model X.prog X.w) X.A X.env X.xe) (hc:PT X c tc) (hb:o6 X body tb):PS X (.While c body [] pos) (WL tc tb):=fun pins s σ H D I h=>Rt hp hc hb pins s σ H D I h.ex
end
theorem xL {K:PySem.W.Frag}{a:Addr}{xs:List V}{g:TG}{tb:TS}{D:Ends}{σ:St}{H:Hp} (Pv:Nat→St→Hp→Prop) (h0:Pv 0 σ H) (hl:∀ i σ H,i≤xs.length→Pv i σ H→cB K H a xs)
   (hs:∀ i x σ H,xs[i]? = some x→Pv i σ H→g x σ H fun σ2 H2=>tb { D with nx:=Pv (i+1),ct:=Pv (i+1),bk:=D.nx } σ2 H2) (hd:∀ σ H,Pv xs.length σ H→D.nx σ H):Z8 (Yq K a) g tb D σ H:=⟨Rx Pv h0 hl hs hd⟩
theorem Cq {lo:Int}{n:Nat}{g:TG}{tb:TS}{D:Ends}{σ:St}{H:Hp} (Pv:Nat→St→Hp→Prop) (h0:Pv 0 σ H)
   (hs:∀ i σ H,i<n→Pv i σ H→g (.int (lo+i)) σ H fun σ2 H2=>tb { D with nx:=Pv (i+1),ct:=Pv (i+1),bk:=D.nx } σ2 H2) (hd:∀ σ H,Pv n σ H→D.nx σ H):Z8 (ZG lo n) g tb D σ H:=⟨Qt Pv h0 hs hd⟩
theorem rW {α:Type}{f:α→V}{l:List α}{i:Nat}{x:V} (h:(l.map f)[i]? = some x):∃ a,l[i]? = some a∧x=f a:=by
 rw [List.getElem?_map] at h
 cases e:l[i]? with
 | none=>rw [e] at h;cases h
 | some a=>rw [e] at h;exact⟨a,rfl,(Option.some.inj h).symm⟩
theorem fj {K:PySem.W.Frag}{a b:String}{r:Bool} (h:(if (Value.type a == Value.type b)=true then some true else if PySem.W.kitMeta b=true then (fastBuiltinMro a).map (·.contains (Value.type b)) else none)=some r):PySem.W.kitOne K (.type a) (.type b)=some r:=h
end L2
namespace L2
open PySem PySem.Spec PyProof.Rows PySem.Calls
def TrD (h base:Heap) (e:Addr) (cls:Value) (dct:Option Addr) (fl:Value):Prop :=
 ∃ oe vs T oT ts,h.get? e=some oe∧(oe.cls=cls∧oe.dict=dct)∧oe.data=.fields vs∧vs[1]? = some (.ref T)∧base.get? T=none∧T≠e∧h.get? T=some oT∧oT.data=.fields ts∧ts[3]? = some fl
def adK (base:Heap) (l:List Env) (e:Addr) (cls:Value) (dct:Option Addr) (fl:Value) (h:Heap):Prop :=
 base.StaysIn h∧base.get? e=none∧h.FunFrames base l∧TrD h base e cls dct fl
theorem adK.there {base h:Heap}{l:List Env}{e:Addr}{cls fl:Value}{dct:Option Addr} (x:adK base l e cls dct fl h):∃ ob,h.get? e=some ob∧ob.cls=cls∧ob.dict=dct∧∃ vs,ob.data=.fields vs:=by
 obtain⟨_,_,_,oe,vs,_,_,_,he,hc,hd,_⟩:=x
 exact⟨oe,he,hc.1,hc.2,vs,hd⟩
section
variable {M:Model}{A:Around}{E:Value→Shared→Prop}{s:Shared}
end
end L2
namespace L2
open PySem PySem.Spec PyProof.Rows PySem.Calls
structure XUn (outer:List Env) (H H':Hp) (h B h1:Heap):Prop where
 YC:∀ b o,h.get? b=some o→H b=none→b∉frs outer→B.get? b=some o
 Sq:∀ b o,h.get? b=some o→b∉frs outer→∃ o',B.get? b=some o'
 slot:∀ b o,h.get? b=some o→H b=none→b∈frs outer→∃ sl,h1.get? b=some { o with slots:=sl }
 free:∀ b o,h.get? b=some o→H b=none→H' b=none
 tups:∀ b xs,H b=some (.tup xs)→H' b=some (.tup xs)
 nR:∀ b o u,H b=some (.sI o u)→H' b=some (.sI o u)
 oJ:∀ b ps,H b=some (.mW ps)→∃ more,H' b=some (.mW (ps++more))
theorem XUn.step {outer:List Env}{H H':Hp}{h B h1 h2 base:Heap} (x:XUn outer H H' h B h1) (fr:h1.FunFrames base outer) (up:h1.UpToSlots h2):XUn outer H H' h B h2 :=
 ⟨x.YC,x.Sq,fun b o e n hb=>by
   obtain⟨sl,q⟩:=x.slot b o e n hb
   obtain⟨_,o',ho',hd'⟩:=fr.mem hb
   rw [q] at ho';cases ho'
   obtain⟨sl',q'⟩:=up b _ q hd'
   exact⟨sl',q'⟩,x.free,x.tups,x.nR,x.oJ⟩
theorem XUn.un {outer:List Env}{H H':Hp}{h B h1:Heap} (x:XUn outer H H' h B h1) (st:B.StaysIn h1) (fr:h1.FunFrames B outer):Un (frs outer) [] H H' h h1 :=
 ⟨fun b o e n hb _=>st b o (x.YC b o e n hb),fun b o e n hb _=>x.slot b o e n hb,fun b o e n _=>x.free b o e n,fun b o e _=>by
   by_cases hb:b∈frs outer
   · obtain⟨_,o',ho',_⟩:=fr.mem hb
     exact⟨o',ho'⟩
   · obtain⟨o',q⟩:=x.Sq b o e hb
     exact⟨o',st b o' q⟩,x.tups,x.nR,x.oJ⟩
section
variable {P:Program}{w:World}{K:PySem.W.Frag}{mg:Str→Option Value}{base:Heap}{N:List Str}{qual:Str}{scope:Scope}{f:Addr}{cdv:Value}{A:Around}{outer:List Env}{s:Shared}{H:Hp}{E:XK}
end
section
variable {P:Program}{w:World}{K:PySem.W.Frag}{mg:Str→Option Value}{base:Heap}
end
end L2
namespace L2
open PySem PySem.Spec PyProof.Rows PySem.Calls PySem.W PySem.Builtin PySem.Builtin.ObjectAttr PySem.Builtin.Getset_descriptor
section
variable {prog:Program}{w:World}{A:Around}{E:Value→Shared→Prop}{s:Shared}{K:PySem.W.Frag}{x D:Addr}
def ClsAt (h:Heap) (x D:Addr):Prop:=∃ o,h.get? x=some o∧o.cls=.ref D
theorem ClsAt.type {M:Model}{h:Heap} (p:ClsAt h x D):Looks M h (typeOf (.ref x)) (.ref D):=by
 obtain⟨o,e,c⟩:=p
 exact c ▸ (Looks.ld e).andThen .now
theorem MK {M:Model}{h:Heap}{name:Str}{a g:Value} (X:K.In h) (hf:findIn K (.ref D) name=some (some a)) (hg:specialIn K a "__get__" = some (some g)) (ht:takesIn K a=some true):Looks M h (find (.ref x) (.ref D) name) (.bind g a):=by
 have l1:=looks_findIn (M:=M) X hf
 have l2:Looks M h (getOf (some a)) (some g):=looks_specialIn X hg
 have l3:=looks_takesIn (M:=M) X ht
 refine l1.andThen (l2.andThen ?_)
 have l4:Looks M h (dataDescriptor? (some a) (some g)) (some (g,a)):=l3.andThen .now
 exact l4.andThen (Looks.tag .now)
structure wZ (K:PySem.W.Frag) (D:Addr):Prop where
 ga:findIn K (.ref D) "__getattribute__" = some (some (.builtin "BaseException.__getattribute__"))
 gk:findIn K (.ref D) "__getattr__" = some none
 cl:(clsIn K D).isSome=true
 ha:findIn K (.ref D) "__class__" = some (some (.builtin "object.__class__"))
 hn:specialIn K (.builtin "object.__class__") "__get__" = some (some (.builtin "getset_descriptor.__get__"))
 tk:takesIn K (.builtin "object.__class__")=some true
 mo:mroIn K D (.type "object")=some true
 mb:mroIn K D (.type "BaseException")=some true
theorem class_get {R:Result→Shared→Prop} (c:wZ K D) (X:K.In s.heap) (p:ClsAt s.heap x D) (q:R (.ok (.ret (.ref D))) s) :
   codeAny (model prog w) A (.call (.builtin "getset_descriptor.__get__") ⟨[.builtin "object.__class__",.ref x,.ref D],[]⟩) R s:=by
 obtain⟨hh,g,d,t,os⟩:=s
 obtain⟨o,eo,ec⟩:=id p
 have t0:=p.type (M:=model prog w)
 have l1:=looks_mroIn (M:=model prog w) X c.mo
 have apE:=KF.args_gs (Value.builtin "object.__class__") (Value.ref x) (Value.ref D)
 refine codeAny_call_builtin KF.slot_gs.plain KF.entry_gs
   (KF.slot_gs.check _ _ _ _ _ _ _ _ KF.type_class apE ?_)
 unfold Builtin.«getset_descriptor.__get__»
   descrGet
 rw [dga_obj];refine wpAny_bind (wpAny_pure ?_)
 unfold descrGetter descrCheckInstance
   descrNameAndClass isInstance
 simp only [KF.owner_class]; (repeat lk)
 refine⟨Code.quiet_builtin _
   (by symm),codeAny_builtin KF.entry_class ?_⟩
 unfold Builtin.«object.__class__»
   shownTypeOf
 (repeat lk);exact q
theorem MN {tk:Tok}{R:Result→Shared→Prop} (c:wZ K D) (X:K.In s.heap) (p:ClsAt s.heap x D) (q:R (.ok (.ret (.ref D))) s) :
   codeAny (model prog w) A (.call (.builtin "BaseException.__getattribute__") ⟨[.ref x,.str "__class__" tk],[]⟩) R s:=by
 obtain⟨hh,g,d,t,os⟩:=s
 obtain⟨o,eo,ec⟩:=id p
 have t0:=p.type (M:=model prog w)
 have lb:=looks_mroIn (M:=model prog w) X c.mb
 have f0:=MK (x:=x) (M:=model prog w) X c.ha c.hn c.tk
 have hk:builtinKind "BaseException.__getattribute__" = some .slot:=by symm
 have hsplit:splitId "BaseException.__getattribute__" = some ("BaseException","__getattribute__"):=by symm
 have ha:=F.args_bexc_ga (.ref x) (.str "__class__" tk)
 refine codeAny_call_builtin F.excAttr_ValueError.ga.plain F.entry_bexc_ga ?_
 simp only [checkBuiltinCall,hk,hsplit]
 unfold isInstance
 refine wpAny_bind ?_
 (repeat (first | (with_reducible refine wpAny_call (class_get c X p ?_)) | lk))
 exact q
theorem Ss {Q:Option Value→Shared→Prop} (c:wZ K D) (X:K.In s.heap) (p:ClsAt s.heap x D) (q:Q (some (.ref D)) { s with toks:=s.toks+1 }):wpAny (model prog w) A (getAttr? (.ref x) "__class__") Q E s:=by
 obtain⟨hh,g,d,t,os⟩:=s
 obtain⟨o,eo,ec⟩:=id p
 have t0:=p.type (M:=model prog w)
 have t1:=looks_findIn (M:=model prog w) X c.ga
 have f1:=looks_findIn (M:=model prog w) X c.gk
 have f3:=F.excAttr_ValueError.ga.bind (.ref x)
 unfold getAttr? getAttrBy? getAttrBy
 refine wpAny_bind (wpAny_mkText (wpAny_bind (wpAny_attempt (wpAny_holding (wpAny_bind (t0.at (wpAny_bind (t1.at ?_))))))))
 show wpAny _ _ (getAttrByItsOwn _ _ _ _ _ _) _ _ _
 unfold getAttrByItsOwn hookBefore
 refine wpAny_bind (f1.at (wpAny_bind (wpAny_attempt (wpAny_holding ?_))))
 show wpAny _ _ (boundAndCalled _ _ _) _ _ _
 unfold boundAndCalled
 rw [f3]
 refine wpAny_bind (wpAny_pure (wpAny_call ?_))
 refine MN c (s:=⟨hh,g,d,t+1,os⟩) X p ?_
 exact wpAny_pure (wpAny_pure q)
theorem Pq (c:wZ K D):KitX K (.ref x) (.ref D) (fun h=>ClsAt h x D) where
 ty:=fun _ _ _ p=>p.type
 it:=fun _ _ X _=>by
   obtain⟨cd,e⟩:=Option.isSome_iff_exists.mp c.cl
   unfold clsIn at e
   split at e
   · rename_i c' d' cd' sl' ho
     intro A' Q' E' s' k q
     unfold isType loadHead
     exact wpAny_bind (wpAny_loadPart (k _ _ (X _ _ ho)) (wpAny_pure q))
   · cases e
 ne:=fun h tp dd its n sl X htp=>by
   obtain⟨cd,e⟩:=Option.isSome_iff_exists.mp c.cl
   refine Bool.eq_false_iff.mpr fun q=>?_
   have z:D=tp:=Value.ref.inj (beq_iff_eq.mp q)
   subst z
   unfold clsIn at e
   split at e
   · rename_i c' d' cd' sl' ho
     have z:=(X _ _ ho).symm.trans htp
     cases z
   · cases e
 ca:=fun X p k=>Ss c X p k
end
def adM (a D:Addr):HO:=.ext fun h=>ClsAt h a D
def adN (a D dx:Addr):HO:=.ext fun h=>∃ o,h.get? a=some o∧o.cls=.ref D∧o.dict=some dx∧∃ vs,o.data=.fields vs
inductive VR (K:PySem.W.Frag) (H:Hp):V→Value→Prop where
 | old {x:V}{t:Value} (h:aD K H x t):VR K H x t
 | exc {a D:Addr} (h:H a=some (adM a D)) (c:wZ K D):VR K H (.ref a) (.ref D)
 | tpl {a:Addr}{xs:List V} (h:eY K H a xs):VR K H (.ref a) (.type "tuple")
 | aaa {a D dx:Addr} (h:H a=some (adN a D dx)) (c:wZ K D):VR K H (.ref a) (.ref D)
def WM:V→Value
 | .ref a=>.ref a
 | .ty n=>.type n
 | _=>.none
def Pr:V→Bool
 | .ref _=>true
 | .ty _=>true
 | _=>false
section
variable {X:Cx}{pins:List (Addr × Obj)}{σ:St}{H:Hp}{s:Shared}{A:Around}{E:Value→Shared→Prop}{Q:Value→Shared→Prop}{c:Value}{b:Bool}
theorem Su {x:V}{u t:Value} (I:Inv X pins σ H s) (rx:RelV x u) (ty:VR X.K H x t):(∃ P:Heap→Prop,KitX X.K u t P∧P s.heap)∧u≠.builtin "__main__.__loader__#opaque":=by
 cases ty with
 | @tpl a xs h =>
   cases (show u=Value.ref a from rx)
   obtain⟨its,r,pl,hz⟩:=I.tuple h
   obtain⟨o,h1,h2,_⟩:=pl
   exact⟨⟨_,kitx_tuple,⟨o,h1,h2⟩⟩,fun z=>nomatch z⟩
 | old ty =>
   cases ty with
   | non=>cases (show u=Value.none from rx);exact⟨⟨_,kitx_none,True.intro⟩,fun z=>nomatch z⟩
   | bl y=>cases (show u=Value.bool y from rx);exact⟨⟨_,kitx_bool,True.intro⟩,fun z=>nomatch z⟩
   | int i=>obtain⟨t,q⟩:=(show ∃ t,u=Value.int i t from rx);cases q;exact⟨⟨_,kitx_int,True.intro⟩,fun z=>nomatch z⟩
   | str y=>obtain⟨t,q⟩:=(show ∃ t,u=Value.str y t from rx);cases q;exact⟨⟨_,kitx_str,True.intro⟩,fun z=>nomatch z⟩
   | flt y=>obtain⟨t,q⟩:=(show ∃ t,u=Value.float y t from rx);cases q;exact⟨⟨_,kitx_float,True.intro⟩,fun z=>nomatch z⟩
   | @lst a xs ea =>
     cases (show u=Value.ref a from rx)
     obtain⟨_,_,n,_,h1⟩:=(show cD X.prog X.w H s.heap a (.lst xs) from I.hok a _ ea)
     exact⟨⟨_,kitx_list,⟨_,h1,rfl⟩⟩,fun z=>nomatch z⟩
   | @sI a ob xs ea =>
     cases (show u=Value.ref a from rx)
     obtain⟨_,_,_,n,_,h1⟩:=(show cD X.prog X.w H s.heap a (.sI ob (.lst xs)) from I.hok a _ ea)
     exact⟨⟨_,kitx_list,⟨_,h1,rfl⟩⟩,fun z=>nomatch z⟩
   | @tup a xs ea =>
     cases (show u=Value.ref a from rx)
     obtain⟨_,_,_,p⟩:=(show cD X.prog X.w H s.heap a (.tup xs) from I.hok a _ ea)
     obtain⟨o,h1,h2,_⟩:=p
     exact⟨⟨_,kitx_tuple,⟨o,h1,h2⟩⟩,fun z=>nomatch z⟩
   | @dK a kvs ea =>
     cases (show u=Value.ref a from rx)
     obtain⟨_,_,vs,_,p⟩:=(show cD X.prog X.w H s.heap a (.dK kvs) from I.hok a _ ea)
     obtain⟨o,es,ep,h1,h2,_⟩:=p
     exact⟨⟨_,kitx_dict,⟨o,h1,h2.1⟩⟩,fun z=>nomatch z⟩
   | @dT a kvs ea =>
     cases (show u=Value.ref a from rx)
     obtain⟨_,_,xs,_,o,es,ep,h1,h2,_⟩:=(show cD X.prog X.w H s.heap a (.dT kvs) from I.hok a _ ea)
     exact⟨⟨_,kitx_dict,⟨o,h1,h2.1⟩⟩,fun z=>nomatch z⟩
   | @ins a C dx fs ea cl ha hn htk hm =>
     cases (show u=Value.ref a from rx)
     obtain⟨mA,O,_⟩:=Bs I.hok ea
     obtain⟨od,J,_⟩:=O.look
     exact⟨⟨_,kitx_own (cl.get _) cl.hd ha hn htk hm,J⟩,fun z=>nomatch z⟩
 | @exc a D h c =>
   cases (show u=Value.ref a from rx)
   obtain⟨p,_⟩:=(show cD X.prog X.w H s.heap a (adM a D) from I.hok a _ h)
   exact⟨⟨_,Pq c,p⟩,fun z=>nomatch z⟩
 | @aaa a D dx h c =>
   cases (show u=Value.ref a from rx)
   obtain⟨⟨o,e,k,_⟩,_⟩:=(show cD X.prog X.w H s.heap a (adN a D dx) from I.hok a _ h)
   exact⟨⟨_,Pq c,⟨o,e,k⟩⟩,fun z=>nomatch z⟩
theorem J2 {x:V}{u:Value} (h:Pr x=true) (r:RelV x u):u=WM x:=by
 cases x with
 | ref a=>exact r
 | ty n=>exact r
 | _=>cases h
theorem GX:∀ {xs:List V}{us:List Value},xs.all Pr=true→Vals xs us→us=xs.map WM
 | [],_,_,.nil=>rfl
 | x::xs,_,h,.cons r rs=>by
   rw [List.all_cons,Bool.and_eq_true] at h
   rw [J2 h.1 r,GX h.2 rs];rfl
theorem yQ:cQ X (.builtin "isinstance") (fun xs H Q=>∃ x y t b,xs=[x,y]∧Pr y=true∧VR X.K H x t∧PySem.W.kitOne X.K t (WM y)=some b∧Q (.bl b) H):=by
 intro pins s σ H xs us Q I r h
 obtain⟨x,y,t,b,rfl,hc,ty,e,q⟩:=h
 obtain⟨u,w',rfl,rx,ry⟩:=vals2 r
 obtain rfl:=J2 hc ry
 obtain⟨⟨P,Z,p⟩,nb⟩:=Su I rx ty
 exact kia_one Z I.By p e nb fun tk=>⟨.bl b,H,I.tok _,rfl,q⟩
theorem rY:cQ X (.builtin "isinstance") (fun xs H Q=>∃ x tp cs t b,xs=[x,.ref tp]∧H tp=some (.tup cs)∧cs.all Pr=true∧VR X.K H x t∧PySem.W.kitAny X.K t (cs.map WM)=some b∧Q (.bl b) H):=by
 intro pins s σ H xs us Q I r h
 obtain⟨x,tp,cs,t,b,rfl,ht,hc,ty,e,q⟩:=h
 obtain⟨u,w',rfl,rx,ry⟩:=vals2 r
 cases ry
 obtain⟨⟨P,Z,p⟩,nb⟩:=Su I rx ty
 obtain⟨_,its,rv,o,ho,hcl,n,hd⟩:=(show cD X.prog X.w H s.heap tp (.tup cs) from I.hok tp _ ht)
 obtain rfl:=GX hc rv
 obtain⟨oc,od,oda,osl⟩:=o
 dsimp only at hcl hd
 subst hcl hd
 exact kia_tup Z I.By p ho e nb fun tk=>⟨.bl b,H,I.tok _,rfl,q⟩
end
end L2
namespace L2
open PySem PySem.Spec PyProof.Rows PySem.Calls PySem.W
abbrev YD:List Value:=[.type "ValueError",.type "Exception",.type "BaseException",.type "object"]
section
variable {P:Program}{w:World}{K:PySem.W.Frag}{mg:Str→Option Value}{base:Heap}{N:List Str}{qual:Str}{scope:Scope}{f:Addr}{cdv:Value}{A:Around}{outer:List Env}{s:Shared}{H:Hp}{E:XK}
end
abbrev TSx:=Ends→(St→XK)→St→Hp→Prop
section
variable {X:Cx}{k:Nat}{f C:Addr}{fd:FuncData}{ps:List Str}{sp:Sp}{t8:List V}{ds:List Value}{x m:Str}{p pos apos:Pos}{e o:Expr}{es:List Expr}{ta:TE}{t:TA}
theorem PA.Fd {es:List Expr}{t:TA} (h:PA X.Fd es t) (E:Value→Shared→Prop) {pos:Pos}{pins:List (Addr × Obj)}{s:Shared}{σ:St}{H:Hp}{Q:List V→Hp→Prop} (I:Inv X pins σ H s) (q:t σ H Q) :
   wpAny (model X.prog X.w) X.A (spliced (backTo pos (starEach es X.env))) (AP X pins σ Q) E s :=
 wpAny_mono (h pos pins s σ H Q (I.wish _) q) (fun _ _ ⟨vs,H',I',r,q⟩=>⟨vs,H',I'.jZ,r,q⟩) fun _ _ z=>False.elim z
end
def hcx (X:Cx) (e:Addr):Cx:={ X with A:=X.A.mark (some (.ref e)),calm:=false,xe:=fun _ _=>False }
section
variable {X:Cx}{body suite:List Stmt}{b₀:Stmt}{x:Str}{C:Addr}{np hpos pos:Pos}{tb:TSx}{th:TS}
end
end L2
namespace L2
open PySem PySem.Spec PyProof.Rows PySem.Calls PySem.W
section
variable {X:Cx}{pins:List (Addr × Obj)}{σ:St}{H:Hp}{s:Shared}
end
section
variable {X:Cx}{body suite:List Stmt}{b₀:Stmt}{x n:Str}{C:Addr}{np hpos pos:Pos}{tb:TSx}{th:TS}{j:Nat}
end
end L2
namespace L2
open PySem PySem.Spec PyProof.Rows PySem.Calls
section
variable {X:Cx}
def lN (l:List Nat):Nat→List Nat
 | 0=>[]
 | k+1=>lN l k++l
theorem Cr (l:List Nat):∀ k,(lN l k).length=k*l.length
 | 0=>by simp [lN]
 | k+1=>by rw [lN,List.length_append,Cr l k,Nat.succ_mul]
theorem Sv (x:Str) (k:Nat):(⟨(List.replicate k x.cps).foldl (· ++ ·) #[]⟩:Str)=S (lN (cd x) k):=by
 have g:∀ k,(List.replicate k x.cps).foldl (· ++ ·) #[]=(lN (cd x) k).toArray:=fun k=>by
   induction k with
   | zero=>rfl
   | succ k ih=>rw [List.replicate_succ',List.foldl_append,ih];show _++x.cps=_;rw [lN];apply Array.ext';simp [cd]
 rw [g];rfl
theorem Cu:jc X (binaryOp .Mult) (fun x y H Q=>∃ z n,x=.str z∧y=.int n∧0≤n∧n≤1000000∧z.length*n.toNat≤1000000∧z.length≤1000000∧Q (.str (S (lN (cd z) n.toNat))) H):=by
 intro pins s σ H x y v u Q I rx ry h
 obtain⟨z,n,rfl,rfl,h0,h1,h2,h3,q⟩:=h
 obtain⟨t,rfl⟩:=rx
 obtain⟨t',rfl⟩:=ry
 have tl:Builtin.Str.tooLong (z.length*n.toNat)=false:=by
   unfold Builtin.Str.tooLong
   exact decide_eq_false (by rw [sizeLine_eq];omega)
 refine P.mul_str ?_ ?_ (fun _ _=>tl) ?_
 · rw [decide_eq_false (by omega),decide_eq_false (by omega)];rfl
 · intro hn _ hgt
   have:(2 ^ 63 - 1:Int) / n ≥ 1000000:=by
     have:(1000000:Int)*n≤2 ^ 63 - 1:=by omega
     exact Int.le_ediv_of_mul_le (by omega) this
   omega
 · have fin:∀ y:Str,y=S (lN (cd z) n.toNat)→∀ t tk,EP X pins σ Q (.str y t) { s with toks:=tk }:=fun y e t tk=>by
     subst e;exact⟨.str _,H,I.tok _,⟨_,rfl⟩,q⟩
   by_cases hn:n<1
   · rw [if_pos hn]
     have e0:n=0:=by omega
     subst e0
     exact⟨by rw [sizeLine_eq];exact Nat.zero_le _,fin _ rfl _ _⟩
   · rw [if_neg hn]
     by_cases h1:(n == 1 || z.length == 0)=true
     · rw [if_pos h1]
       refine fin z ?_ t s.toks
       rcases Bool.or_eq_true_iff.mp h1 with e | e
       · have e':n=1:=by simpa using e
         subst e'
         show z=S (lN (cd z) 1)
         rw [show lN (cd z) 1=cd z from by simp [lN],adH]
       · have e':(cd z)=[]:=List.eq_nil_of_length_eq_zero (by rw [← lM];simpa using e)
         have:∀ k,lN [] k=[]:=fun k=>by induction k with | zero=>rfl | succ k ih=>simp [lN,ih]
         rw [e',this,← e',adH]
     · rw [if_neg h1]
       refine⟨?_,fin _ (Sv z n.toNat) _ _⟩
       rw [Sv,Yz,Cr,← lM,sizeLine_eq,Nat.mul_comm]
       omega
end
end L2
namespace L2
open PySem PySem.Spec PyProof.Rows PySem.Calls
structure HN (K:PySem.W.Frag) (x qual:Str) (st:Stmt) (ds:List Value) (f:Addr) (fd:FuncData):Prop where
 ex:∃ (T:Addr) (oc:Value) (od:Option Addr) (kV doc pm:Value) (an:Option Addr) (cdv ct:Value) (osl:Array (Option Value)) (to:Obj) (n:Nat),
   fd=PySem.W.fnOf x qual (ak st) (aj st) (aa st) (.ref T) kV doc pm an cdv ct∧K.lookup f=some ⟨oc,od,.func fd,osl⟩∧PySem.W.codeIn K cdv qual=true∧K.lookup T=some to∧to.cls=.type "tuple"∧to.data=.seq ds.toArray n
 kp:PySem.W.keepIn K (.ref f)=true
section
variable {P:Program}{w:World}{K:PySem.W.Frag}{mg:Str→Option Value}{base:Heap}{x qual:Str}{st:Stmt}{f:Addr}{fd:FuncData}{N ps:List Str}{k:Nat}{sp:Sp}{ds:List Value}
theorem HN.ok (F:HN K x qual st ds f fd) (S:au N ps (aa st)) (len:∀ vs H Q E,sp vs H Q E→vs.length=ps.length)
   (hbody:∀ (cdv:Value) (A:Around) (outer:List Env) (s:Shared) (H:Hp) (vs:List V) (Q:VK) (E:XK),fc k (A.deeper (envOfC qual (aa st) s.heap.objs.size f cdv))→sp vs H Q E →
     ∃ t,o6 (JH bR P w K mg base N qual (aa st) f cdv A outer s H E).Fd (aj st) t∧t { nx:=fun _ H'=>Q .non H',rt:=Q } (start N vs) H):aV P w K mg base bR (k+1) f fd ps sp:=by
 obtain⟨T,oc,od,kV,doc,pm,an,cdv,ct,osl,to,n,rfl,lk,hcd,_⟩:=F.ex
 refine RJ lk hcd S len fun A outer s H vs Q E hr hsp=>?_
 obtain⟨t,h,q⟩:=hbody cdv A outer s H vs Q E hr hsp
 exact⟨t,h.Fd,q⟩
theorem HN.binds {es:List Value} (F:HN K x qual st ds f fd)
   (h:∀ (T:Addr) (kV doc pm:Value) (an:Option Addr) (cdv ct:Value) (us:List Value) (M:Model) (A:Around) (E:Value→Shared→Prop) (Q:List (Str × Value)→Shared→Prop) (s:Shared) (to:Obj) (n:Nat),s.heap.get? T=some to→to.cls=.type "tuple"→to.data=.seq ds.toArray n →
     (us++es).length=ps.length→Q (ps.zip (us++es)) s→wpAny M A (bindArgs (PySem.W.fnOf x qual (ak st) (aj st) (aa st) (.ref T) kV doc pm an cdv ct) ⟨us,[]⟩) Q E s):Binds K fd ps es:=by
 obtain⟨T,oc,od,kV,doc,pm,an,cdv,ct,osl,to,n,rfl,lk,hcd,lt,tc,td⟩:=F.ex
 intro s us X hl M A E Q q
 exact h T kV doc pm an cdv ct us M A E Q s to n (X _ _ lt) tc td hl q
end
section
variable {K:PySem.W.Frag}{C D:Addr}{cd:ClassData}{r b:Bool}{T:String}
theorem oO:PySem.W.kitOne K (.ref D) (.ref D)=some true:=by unfold PySem.W.kitOne;rw [if_pos (beq_self_eq_true _)]
theorem MP (h1:PySem.W.clsIn K C=some cd) (h2:PySem.W.typeIn K (.ref C)=some (.type "type")) (h3:PySem.W.mroIn K D (.ref C)=some r):PySem.W.kitCls K (.ref D) (.ref C)=some r:=by
 show (if ((PySem.W.clsIn K C).isSome && PySem.W.typeIn K (.ref C) == some (.type "type"))=true then PySem.W.mroIn K D (.ref C) else none)=some r
 rw [h1,h2,h3];rfl
theorem pq (h1:PySem.W.clsIn K C=some cd) (h2:PySem.W.typeIn K (.ref C)=some (.type "type")) (h3:PySem.W.mroIn K D (.ref C)=some r) (hne:(Value.ref D == Value.ref C)=false):PySem.W.kitOne K (.ref D) (.ref C)=some r:=by
 unfold PySem.W.kitOne
 rw [if_neg (by rw [hne];decide)]
 exact MP h1 h2 h3
theorem rZ {α:Type}{us ds:List α}{n m:Nat} (h:(us++ds).length=n) (hm:ds.length+m=n):us.length=m:=by rw [List.length_append] at h;omega
theorem jE {x qual:Str}{st:Stmt}{f T:Addr}{oc:Value}{od an dd:Option Addr}{osl dsl:Array (Option Value)}{kV doc pm cdv ct:Value}{ds:List Value}{n:Nat} (l:K.lookup f=some ⟨oc,od,.func (PySem.W.fnOf x qual (ak st) (aj st) (aa st) (.ref T) kV doc pm an cdv ct),osl⟩)
   (c:PySem.W.codeIn K cdv qual=true) (k:PySem.W.keepIn K (.ref f)=true) (lt:K.lookup T=some ⟨.type "tuple",dd,.seq ds.toArray n,dsl⟩):HN K x qual st ds f (PySem.W.fnOf x qual (ak st) (aj st) (aa st) (.ref T) kV doc pm an cdv ct) :=
 ⟨⟨T,oc,od,kV,doc,pm,an,cdv,ct,osl,_,n,rfl,l,c,lt,rfl,rfl⟩,k⟩
end
end L2
namespace L2
theorem Bt.ValueError:PySem.bootBuiltins "ValueError" = some (.type "ValueError"):=PyProof.Rows.Boot.«ValueError»
open PySem PySem.Spec PyProof.Rows
def val (l:List Nat):Int:=l.foldl (fun a c=>a*10+((c - 48:Nat):Int)) 0
structure vG (n:Nat) (z:Str):Prop where
 len:z.length≤n
 cod:∀ c∈cd z,c<1000
theorem vG.mono {n m:Nat}{z:Str} (h:vG n z) (l:n≤m):vG m z:=⟨Nat.le_trans h.len l,h.cod⟩
theorem vG.app {n m:Nat}{x y:Str} (h:vG n x) (k:vG m y):vG (n+m) (x++y):=by
 refine⟨?_,fun c hc=>?_⟩
 · rw [lM,wX,List.length_append,← lM,← lM];have:=h.len;have:=k.len;omega
 · rw [wX] at hc
   rcases List.mem_append.mp hc with e | e
   · exact h.cod c e
   · exact k.cod c e
theorem vG.cut {n:Nat}{z:Str} (h:vG n z) (lo hi:Option Int):vG n (S (adI (cd z) lo hi)):=by
 refine⟨?_,fun c hc=>?_⟩
 · rw [Yz];unfold adI;rw [List.length_take,List.length_drop,← lM];have:=h.len;omega
 · rw [Z6] at hc;exact h.cod c (List.mem_of_mem_drop (List.mem_of_mem_take hc))
theorem vG.size {n:Nat}{z:Str} (h:vG n z) (hn:n≤100000:=by decide):z.length≤sizeLine:=by rw [sizeLine_eq];have:=h.len;omega
theorem vG.int {i:Int}{k:Nat} (hk:0<k) (h:i.natAbs<10 ^ k):vG (k+1) (toString i):=by
 refine⟨?_,fun c hc=>?_⟩
 · rw [show ((toString i:String):Str).length=(toString i).length from PySem.ofString_length _]
   exact int_text_length_le10 hk h
 · rcases Nat.lt_or_ge c 1000 with z | z
   · exact z
   · exact absurd hc (int_text_free' c ⟨by omega,by omega⟩ i)
end L2
namespace L2
open PySem PySem.Spec PyProof.Rows PySem.Calls
structure EqJ (X:Cx) (H:Hp) (n:Nat) (x y:V) (b:Bool):Prop where
 rc:∀ (pins:List (Addr × Obj)) (s:Shared) (σ:St) (u v:Value) (A:Around),Inv X pins σ H s→RelV x u→RelV y v→A.units+n<cLine→SeqAt.RcAt A s u v b
 ne:∀ (pins:List (Addr × Obj)) (s:Shared) (σ:St) (u v:Value) (A:Around),Inv X pins σ H s→RelV x u→RelV y v→A.units+n<cLine→SeqAt.RcNeAt A s u v (!b)
def Sw (X:Cx) (H:Hp) (n:Nat) (x y:V) (b:Bool):Prop :=
 ∀ (pins:List (Addr × Obj)) (s:Shared) (σ:St) (u v:Value) (A:Around),Inv X pins σ H s→RelV x u→RelV y v→A.units+n<cLine→SeqAt.EqAt A s u v b
section
variable {X:Cx}{H:Hp}{n:Nat}{x y:V}{b:Bool}{p q:Addr}{xs ys:List V}
theorem Sx (fx:iG x=true) (fy:iG y=true):Sw X H n x y (JP x y):=fun _ _ _ _ _ _ _ rx ry _=>RP rx ry fx fy
theorem SJ:Sw X H n (.ref p) (.ref p) true:=fun _ _ _ _ _ _ _ rx ry _=>by cases rx;cases ry;exact SeqAt.EqAt.same _
theorem SM (hn:p≠q) (h:EqJ X H n (.ref p) (.ref q) b):Sw X H n (.ref p) (.ref q) b:=fun pins s σ u v A I rx ry hu=>by
 have r:=h.rc pins s σ u v A I rx ry hu
 cases rx;cases ry
 exact SeqAt.EqAt.of_refs hn r
theorem HQ {xs:List V}{us:List Value} (r:Vals xs us) {j:Nat} (h:j<us.toArray.size):∃ x,xs[j]? = some x∧RelV x us.toArray[j]:=by
 have hj:j<us.length:=by simpa using h
 have hx:j<xs.length:=by rw [r.length];exact hj
 obtain⟨u,hu,ru⟩:=r.get (List.getElem?_eq_getElem hx)
 refine⟨xs[j],List.getElem?_eq_getElem hx,?_⟩
 rw [List.getElem?_eq_getElem hj] at hu
 cases hu
 simpa using ru
theorem SN {e:Nat→Bool} (h:eY X.K H p xs) (k:eY X.K H q ys) (he:∀ (j:Nat) x y,xs[j]? = some x→ys[j]? = some y→Sw X H n x y (e j)) :
   EqJ X H (n+1) (.ref p) (.ref q) ((List.range (min xs.length ys.length)).all e && xs.length == ys.length):=by
 have g:∀ (pins:List (Addr × Obj)) (s:Shared) (σ:St) (A:Around),Inv X pins σ H s→A.units+(n+1)<cLine→∃ its its':List Value,s.heap.IsTuple p its.toArray∧s.heap.IsTuple q its'.toArray∧its.toArray.size=xs.length∧its'.toArray.size=ys.length ∧
     ∀ j (h1:j<its.toArray.size) (h2:j<its'.toArray.size),SeqAt.EqAt A.in1 s its.toArray[j] its'.toArray[j] (e j):=fun pins s σ A I hu=>by
   obtain⟨its,r,pl,_⟩:=I.tuple h
   obtain⟨its',r',pl',_⟩:=I.tuple k
   have l1:=r.length
   have l2:=r'.length
   refine⟨its,its',pl,pl',by simp only [List.size_toArray];omega,by simp only [List.size_toArray];omega,fun j h1 h2=>?_⟩
   obtain⟨x,hx,rx⟩:=HQ r h1
   obtain⟨y,hy,ry⟩:=HQ r' h2
   exact he j x y hx hy pins s σ _ _ A.in1 I rx ry (by show A.units+1+n<_;omega)
 refine⟨fun pins s σ u v A I rx ry hu=>?_,fun pins s σ u v A I rx ry hu=>?_⟩ <;> (cases rx;cases ry;have hu':A.units<cLine:=by omega)
 · obtain⟨its,its',a,b,c,d,z⟩:=g pins s σ A I hu
   rw [← c,← d];exact SeqAt.RcAt.tuples a b hu' z
 · obtain⟨its,its',a,b,c,d,z⟩:=g pins s σ A I hu
   rw [← c,← d]
   exact SeqAt.RcNeAt.tuples a b hu' z
theorem SQ {x:V} (h:iG x=true):JP x x=true:=by
 cases x <;> first | rfl | exact beq_self_eq_true _ | cases h
def SX:List V→List V→Bool
 | [],[]=>true
 | x::xs,y::ys=>JP x y && SX xs ys
 | _,_=>false
theorem GZ:∀ {xs ys:List V},xs.length=ys.length→(List.range xs.length).all (fun j=>JP (xs.getD j .non) (ys.getD j .non))=SX xs ys
 | [],[],_=>rfl
 | x::xs,y::ys,h=>by
   have h':xs.length=ys.length:=Nat.succ.inj h
   rw [List.length_cons,List.range_succ_eq_map,List.all_cons,List.all_map,SX,← GZ h']
   rfl
 | [],_::_,h=>by cases h
 | _::_,[],h=>by cases h
theorem Pu:∀ {xs ys:List V},SX xs ys=true→xs.length=ys.length
 | [],[],_=>rfl
 | x::xs,y::ys,h=>by rw [SX,Bool.and_eq_true] at h;rw [List.length_cons,List.length_cons,Pu h.2]
 | [],_::_,h=>by cases h
 | _::_,[],h=>by cases h
theorem vH {xs:List V} (h:xs.all iG=true) {j:Nat}{x:V} (e:xs[j]? = some x):iG x=true∧xs.getD j .non=x :=
 ⟨List.all_eq_true.mp h x (List.mem_of_getElem? e),by rw [List.getD,e];rfl⟩
theorem QH (h:eY X.K H p xs) (k:eY X.K H q ys) (fx:xs.all iG=true) (fy:ys.all iG=true):EqJ X H (n+1) (.ref p) (.ref q) (SX xs ys):=by
 have e:((List.range (min xs.length ys.length)).all (fun j=>JP (xs.getD j .non) (ys.getD j .non)) && xs.length == ys.length)=SX xs ys:=by
   by_cases hl:xs.length=ys.length
   · rw [← hl,Nat.min_self,beq_self_eq_true,Bool.and_true];exact GZ hl
   · have:SX xs ys=false:=by
       cases e:SX xs ys with
       | false=>rfl
       | true=>exact absurd (Pu e) hl
     rw [this,beq_eq_false_iff_ne.mpr hl,Bool.and_false]
 rw [← e]
 refine SN h k fun j x y hx hy=>?_
 obtain⟨a,a'⟩:=vH fx hx
 obtain⟨b,b'⟩:=vH fy hy
 rw [a',b']
 exact Sx a b
theorem adO {A:Around}{k:Nat} (hr:fc k A):A.units+20<cLine:=by have:=hr.units;omega
end
end L2
namespace L2
open PySem PySem.Spec PyProof.Rows PySem.Calls
section
variable {P:Program}{w:World}{K:PySem.W.Frag}{mg:Str→Option Value}{base:Heap}
structure dw (P:Program) (w:World) (K:PySem.W.Frag) (mg:Str→Option Value) (base:Heap) (CX:Ff) (k:Nat) (C:Addr) (m:Str) where
 f:Addr
 fd:FuncData
 ps:List Str
 sp:Sp
 ds:List Value
 t8:List V
 c:Ak K C
 hm:Meth K C m f
 F:aV P w K mg base CX k f fd ps sp
 hb:Binds K fd ps ds
 hd:Vals t8 ds
end
section
variable {X:Cx}{CX:Ff}{k:Nat}{E:XK}{m:Str}{pos apos:Pos}{e o:Expr}{es:List Expr}{ta:TE}{t:TA}
def S6 (X:Cx) (CX:Ff) (k:Nat) (m:Str) (E:XK) (ta:TE) (t:TA):TE:=fun σ H Q=>ta σ H fun x H1=>∃ (a C dx:Addr) (fs:List (Str × V)) (M:dw X.prog X.w X.K X.mg X.base CX k C m),x=.ref a∧H1 a=some (.ins C dx fs)∧fs.lookup m=none ∧
 t σ H1 fun vs H2=>M.sp (x::(vs++M.t8)) H2 Q E
theorem yF {pl:Sem Bool} (hr:fc k X.A) (hx:Passes CX X E) (he:PE X o ta) (ha:PA X (e::es) t)
   (hst:starEach (e::es) X.env=(false,eval e X.env)::starEach es X.env:=by rfl) (hpl:(backTo pos (starEach es X.env)).any (·.1)=false:=by rfl)
   (ht:eval (.Call (.Attribute o m apos) (e::es) [] pos) X.env=(do
     let ov ← eval o X.env
     standAt apos.atName
     let (f,first) ← holding [ov] (getMethod ov m pl)
     callWith pos f first (backTo pos (starEach (e::es) X.env)) (backToKw pos (keywordEach [] X.env))):=by rfl) :
   PE X (.Call (.Attribute o m apos) (e::es) [] pos) (S6 X CX k m E ta t):=by
 intro pins s σ H Q I h
 refine PySem.W.methodCall_KW (pl:=pl) (dO (he pins s σ H _ I h) fun u s1 ⟨x,H1,I1,rx,a,C,dx,fs,M,ex,ea,l,q⟩=>?_) ht
 subst ex
 obtain rfl:u=Value.ref a:=rx
 refine t7 I1 ea M.c M.hm l ?_
 refine PySem.W.callWith_K (first:=[.ref a]) (h₀:=X.base) I.ok.mod.Yp M.hm.kp (dO (ha pos pins s1 σ H1 _ I1 q) fun us s2 ⟨vs,H2,I2,r,q2⟩=>⟨I2.By,?_⟩) hst hpl
 exact Hv (us:=.ref a::us) (vs:=.ref a::vs) M.F hr M.hb M.hd hx I2 (.cons rfl r) q2
theorem w5 {pl:Sem Bool} (hr:fc k X.A) (hx:Passes CX X E) (he:PE X o ta)
   (ht:eval (.Call (.Attribute o m apos) [] [] pos) X.env=(do
     let ov ← eval o X.env
     standAt apos.atName
     let (f,first) ← holding [ov] (getMethod ov m pl)
     callWith pos f first (backTo pos (starEach [] X.env)) (backToKw pos (keywordEach [] X.env))):=by rfl) :
   PE X (.Call (.Attribute o m apos) [] [] pos) (S6 X CX k m E ta Qx):=by
 intro pins s σ H Q I h
 refine PySem.W.methodCall_KW (pl:=pl) (dO (he pins s σ H _ I h) fun u s1 ⟨x,H1,I1,rx,a,C,dx,fs,M,ex,ea,l,q⟩=>?_) ht
 subst ex
 obtain rfl:u=Value.ref a:=rx
 refine t7 I1 ea M.c M.hm l ?_
 exact PySem.W.callWith_K0 (first:=[.ref a]) I1.By M.hm.kp (Hv (us:=[.ref a]) (vs:=[.ref a]) M.F hr M.hb M.hd hx I1 (.cons rfl .nil) q)
structure Px (K:PySem.W.Frag) (C:Addr) (m:Str) (f:Addr):Prop where
 rd:PySem.W.readsIn K C (.type "type")=true
 at_:PySem.W.findCls K (.ref C) (.type "type") m=some (.val (.ref f))
 sp:PySem.W.specialIn K (.ref C) "__getattribute__" = some (some (.builtin "type.__getattribute__"))
 kp:PySem.W.keepIn K (.ref f)=true
theorem qD {pl:Sem Bool}{C f:Addr}{fd:FuncData}{ps:List Str}{sp:Sp}{x:Str}{np:Pos} (c:Px X.K C m f) (F:aV X.prog X.w X.K X.mg X.base CX k f fd ps sp) (hr:fc k X.A) (hg:Gl X x) (hmg:X.mg x=some (.ref C)) (hb:Binds X.K fd ps []) (hx:Passes CX X E)
   (ha:PA X (e::es) t) (hd:(x == ("__debug__":Str))=false:=by decide)
   (hst:starEach (e::es) X.env=(false,eval e X.env)::starEach es X.env:=by rfl) (hpl:(backTo pos (starEach es X.env)).any (·.1)=false:=by rfl)
   (ht:eval (.Call (.Attribute (.Name x np) m apos) (e::es) [] pos) X.env=(do
     let ov ← eval (.Name x np) X.env
     standAt apos.atName
     let (f,first) ← holding [ov] (getMethod ov m pl)
     callWith pos f first (backTo pos (starEach (e::es) X.env)) (backToKw pos (keywordEach [] X.env))):=by rfl) :
   PE X (.Call (.Attribute (.Name x np) m apos) (e::es) [] pos) (Yr sp [] E t):=by
 intro pins s σ H Q I h
 refine PySem.W.methodCall_KW (pl:=pl) (rU I hg hmg ?_ hd) ht
 refine PySem.W.method_cls I.By c.sp (PySem.W.cls_value (s:=s) I.By c.rd c.at_ rfl ?_)
 refine PySem.W.callWith_K (first:=[]) (h₀:=X.base) I.ok.mod.Yp c.kp (dO (ha pos pins _ σ H _ (I.tok _) h) fun us s2 ⟨vs,H2,I2,r,q2⟩=>⟨I2.By,?_⟩) hst hpl
 exact Hv (us:=us) (vs:=vs) F hr hb .nil hx I2 r q2
end
end L2
namespace L2
open PySem PySem.Spec PyProof.Rows
end L2
namespace L2
open PySem PySem.Spec PyProof.Rows PySem.Calls
section
variable {X:Cx}
end
theorem lk1 {a:Str}{v:V}{r:List (Str × V)}:((a,v)::r).lookup a=some v:=by rw [List.lookup_cons,beq_self_eq_true]
theorem lk2 {a b:Str}{v w:V} (h:(b == a)=false) {r:List (Str × V)}:((a,v)::(b,w)::r).lookup b=some w:=by rw [List.lookup_cons,h];exact lk1
structure Thing (K:PySem.W.Frag) (H:Hp) (x:V) where
 t:Value
 bi:Bool
 bb:Bool
 bs:Bool
 ty:VR K H x t
 ki:PySem.W.kitOne K t (.type "int")=some bi
 kb:PySem.W.kitOne K t (.type "bool")=some bb
 ks:PySem.W.kitOne K t (.type "str")=some bs
 hi:(bi && !bb)=true→∃ n,x=.int n
 hs:bs=true→∃ z,x=.str z
 ni:∀ n,x=.int n→(bi && !bb)=true
 ns:∀ z,x=.str z→bs=true
 YF:bb=true→∃ b,x=.bl b
 nbl:∀ b,x=.bl b→bb=true
theorem aB.vI {K:PySem.W.Frag}{H H':Hp}{a:Addr}{xs:List V} (e:aB H H') (h:eY K H a xs):eY K H' a xs:=by
 rcases h with h | h
 · exact .inl (h.imp (fun k=>e _ _ k) (fun⟨o,k⟩=>⟨o,e _ _ k⟩))
 · exact .inr h
theorem aB.apG {K:PySem.W.Frag}{H H':Hp}{x:V}{t:Value} (e:aB H H') (h:VR K H x t):VR K H' x t:=by
 cases h with
 | old h=>exact .old (e.ty h)
 | exc h c=>exact .exc (e _ _ h) c
 | aaa h c=>exact .aaa (e _ _ h) c
 | tpl h=>exact .tpl (e.vI h)
def Thing.same {K:PySem.W.Frag}{H H':Hp}{x:V} (h:Thing K H x) (e:aB H H'):Thing K H' x:=⟨h.t,h.bi,h.bb,h.bs,e.apG h.ty,h.ki,h.kb,h.ks,h.hi,h.hs,h.ni,h.ns,h.YF,h.nbl⟩
theorem aB.upd {H H':Hp}{p:Addr}{o:HO} (e:aB H H') (h:H p=none∨H p=some o):aB H (L2.upd H' p o):=fun b u q=>by
 by_cases z:b=p
 · subst z
   rcases h with h | h
   · rw [h] at q;cases q
   · rw [h] at q;rw [zB];exact q
 · rw [zI z];exact e b u q
end L2
namespace L2
open PySem PySem.Spec PyProof.Rows
end L2
namespace L2
open PySem PySem.Spec PyProof.Rows PySem.Calls
theorem HR {X:Cx}{e:Expr}{te te':TE} (h:PE X e te') (h2:te'=te):PE X e te:=h2 ▸ h
def aab (K:PySem.W.Frag) (a:Addr) (D:List (Str × Bool)):Prop :=
 (a == sysModules)=false∧∃ o es ep,K.lookup a=some o∧o.ExactDict∧o.data=.dict es ep∧KTD.Rows (fun (b:Bool) (v:Value)=>v=.bool b) es.toList D
theorem WN {K:PySem.W.Frag}{a:Addr}{oc:Value}{od:Option Addr}{es:Array DictEntry}{ep:Nat}{sl:Array (Option Value)}{D:List (Str × Bool)} (h:K.lookup a=some ⟨oc,od,.dict es ep,sl⟩) (hs:(a == sysModules)=false) (hc:oc=.type "dict") (hd:od=none) (hsl:sl=#[]) (hr:KTD.Rows (fun (b:Bool) (v:Value)=>v=.bool b) es.toList D):aab K a D:=by
 subst hc hd hsl
 exact⟨hs,_,es,ep,h,⟨rfl,rfl,rfl⟩,rfl,hr⟩
def Cv (D:List (Str × Bool)) (z:Str):V:=match D.lookup z with
 | some b=>.bl b
 | none=>.non
theorem ud (z:Str):∀ D:List (Str × Bool),KTD.datumAt z (D.map fun p=>(p.1,KTD.Dat.flat (.bool p.2)))=(D.lookup z).map fun b=>KTD.Dat.flat (.bool b)
 | []=>rfl
 | (x,b)::D=>by
   show (if decide (z=x)=true then some (KTD.Dat.flat (.bool b)) else KTD.datumAt z (D.map fun p=>(p.1,KTD.Dat.flat (.bool p.2))))=_
   rw [ud z D,List.lookup_cons]
   by_cases h:z=x
   · subst h;rw [if_pos (decide_eq_true rfl),beq_self_eq_true];rfl
   · rw [if_neg (by simpa using h),beq_eq_false_iff_ne.mpr h]
section
variable {X:Cx}
theorem WQ {x:Str}{a:Addr}{D:List (Str × Bool)}{e:Expr}{te:TE}{np apos cpos:Pos} (hg:Gl X x) (hm:X.mg x=some (.ref a)) (hT:aab X.K a D) (he:PE X e te) (m:M1 X (.Name x np) "get" apos e cpos) (hdb:(x == ("__debug__":Str))=false:=by decide) :
   PE X (.Call (.Attribute (.Name x np) "get" apos) [e] [] cpos) (fun σ H Q=>te σ H fun v H1=>∃ z,v=.str z∧Q (Cv D z) H1):=by
 intro pins s σ H Q I h
 obtain⟨lo,o,es,ep,lk,hc,hd,hr⟩:=hT
 have T0:KTD.TextTab X.base a (D.map fun p=>(p.1,KTD.Dat.flat (.bool p.2))) :=
   ⟨lo,o,es,ep,I.ok.mod.Yp _ _ lk,hc,hd,hr.mono (f:=fun b=>KTD.Dat.flat (.bool b)) fun d v e=>by subst e;exact PyProof.V.Flat.bool d⟩
 have T:∀ {pins:List (Addr × Obj)}{σ:St}{H:Hp}{s:Shared},Inv X pins σ H s→KTD.Here X.base s.heap a (D.map fun p=>(p.1,KTD.Dat.flat (.bool p.2))):=fun I=>⟨T0,I.bk⟩
 refine wpAny_Call_method m.base m.few m.line PySem.F.plainAttrs_dict PySem.F.slot_dict_get PySem.F.type_dict_get (rU I hg hm ?_ hdb)
 refine⟨(T I).typeIs,(T I).noDict,?_⟩
 rw [m.trees]
 refine Calls.callWith_builtin rfl (Calls.evalArgs_plain (Calls.spliced_cons (dO (he pins s σ H _ I h) fun iv s2 ⟨y,H2,I2,ry,z,ez,q2⟩=>Calls.spliced_nil ?_)))
 subst ez
 obtain⟨t,rfl⟩:=ry
 refine call_meetsIn PySem.F.slot_dict_get (T I2).typeIs PySem.F.entry_dict_get (PySem.F.args_dict_get_2 _ _) (KTD.meets_get1 (h₀:=X.base)) ⟨T I2,fun d v ha hv=>?_,fun hn=>?_⟩
 · rw [ud] at ha
   cases hl:D.lookup z with
   | none=>rw [hl] at ha;cases ha
   | some b =>
     rw [hl] at ha
     cases ha
     have hv':v=.bool b:=PyProof.V.Flat.bool_inv hv
     subst hv'
     refine⟨.bl b,H2,I2.tok _,rfl,?_⟩
     unfold Cv at q2
     rw [hl] at q2
     exact q2
 · rw [ud] at hn
   cases hl:D.lookup z with
   | some b=>rw [hl] at hn;cases hn
   | none =>
     refine⟨.non,H2,I2.tok _,rfl,?_⟩
     unfold Cv at q2
     rw [hl] at q2
     exact q2
theorem J3:∀ {xs:List V}{us:List Value},Vals xs us→xs.all iG=true→∀ {x:V} (j:Nat) (h:j<us.toArray.size),RQ x us.toArray[j]=JP (xs.getD j .non) x:=by
 intro xs us r f x j h
 obtain⟨y,hy,ry⟩:=HQ r h
 obtain⟨a,b⟩:=vH f hy
 rw [b]
 exact My ry a
def YG (x:V) (xs:List V) (j:Nat):Prop:=∃ y,xs[j]? = some y∧JP y x=true∧∀ (m:Nat) z,m<j→xs[m]? = some z→JP z x=false
theorem G6:MtM X "list.index" (fun x vs H Q=>∃ p xs y j,x=.ref p∧vs=[y]∧cB X.K H p xs∧xs.all iG=true∧iG y=true∧YG y xs j∧Q (.int (j:Nat)) H):=by
 intro pins s σ H x vs v us Q I rx rv h
 obtain⟨p,xs,y,j,rfl,rfl,hq,fs,fy,⟨y',hj,hy,hno⟩,q⟩:=h
 cases rx
 obtain⟨u,rfl,ru⟩:=rv.one
 obtain⟨its,r,pl,hz⟩:=I.list hq
 obtain⟨⟨cls,dd,data,sl⟩,ho,hc,n,hd⟩:=pl.isList
 simp only at hc hd
 subst hc hd
 have hl:=r.length
 have hlt:j<xs.length:=(List.getElem?_eq_some_iff.mp hj).1
 have hn:=BR
 refine call_meets PySem.F.slot_list_index ⟨_,ho,rfl⟩ PySem.F.entry_list_index (PySem.F.args_list_index_2 _ _)
   (SeqAt.list_indexAt p its.toArray n dd sl u (RQ y) j (by rw [List.size_toArray];omega) (by omega) ?_ ?_) ⟨ho,fun w hw=>vy ru fy r fs w (by simpa using hw),⟨.int j,H,I.tok _,⟨_,rfl⟩,q⟩⟩
 · rw [J3 r fs,(vH fs hj).2];exact hy
 · intro m hm hmj
   rw [J3 r fs]
   have hm':m<xs.length:=by omega
   have e:=List.getElem?_eq_getElem hm'
   rw [(vH fs e).2]
   exact hno m _ hmj e
end
end L2
namespace L2
open PySem PySem.Spec PyProof.Rows PySem.Calls
section
variable {prog:Program}{w:World}{A:Around}{R:Result→Shared→Prop}{I:Addr}{fp wr:List Addr}{G:Array GenState→Array GenState→Prop}{n:Nat}{P:Nat→Value→Prop}{St:Nat→Shared→Prop}
end
section
variable {prog:Program}{w:World}{A:Around}{E:Value→Shared→Prop}{s:Shared}
end
section
variable {X:Cx}
end
end L2
namespace L2
open PySem PySem.Spec PyProof.Rows PySem.Calls
section
variable {X:Cx}
end
theorem S7 {K:PySem.W.Frag}{a:Addr}{xs:List V}{te:TE}{σ:St}{H:Hp}{Q:VK} (hz:xs.length≤sizeLine) (W:Nat→List V→Hp→Prop) (h0:W 0 [] H) (hq:∀ i ys H,W i ys H→eY K H a xs)
   (hs:∀ i x ys H,xs[i]? = some x→ys.length=i→W i ys H→te (some x::σ) H fun v H'=>W (i+1) (ys++[v]) H')
   (hd:∀ ys H,ys.length=xs.length→W xs.length ys H→∀ p,H p=none→Q (.ref p) (upd H p (.lst ys))):YB (Itt K a) te σ H Q:=by
 refine⟨xs.length,W,hz,h0,fun i ys H hi hl hw=>?_⟩
 have q:=hq i ys H hw
 by_cases hlt:i<xs.length
 · refine .inr ⟨⟨xs,xs[i],q,by simp [hlt]⟩,hlt,fun v H' y=>?_⟩
   obtain⟨e,y⟩:=y
   subst e
   exact hs i v ys _ (y xs q) hl hw
 · have e:i=xs.length:=by omega
   subst e
   exact .inl ⟨⟨xs,q,Nat.le_refl _⟩,hd ys H hl hw⟩
end L2
namespace HT
open PySem PySem.Spec PyProof.Rows PySem.Calls
section
variable {prog:Program}{w:World}{A:Around}{E:Value→Shared→Prop}{s:Shared}
end
end HT
namespace L2
open PySem PySem.Spec PyProof.Rows PySem.Calls
section
variable {X:Cx}
end
end L2
namespace L2
open PySem PySem.Spec PyProof.Rows PySem.Calls
def Fo (X:Cx) (ifs:List Expr) (t:TT):Prop :=
 ∀ (pins:List (Addr × Obj)) (s:Shared) (σ:St) (H:Hp) (Q:Bool→Hp→Prop),Inv X pins σ H s→t σ H Q →
   wpAny (model X.prog X.w) X.A (forIn ifs true fun c r=>if r=true then do let ok ← isTrue c X.env (eval c X.env);pure (ForInStep.yield ok) else pure (ForInStep.yield r)) (TP X pins σ Q) X.xe s
def YH:TT:=fun _ H Q=>Q true H
theorem Cw {X:Cx}:Fo X [] YH:=fun pins s σ H Q I h=>wpAny_pure ⟨H,I,h⟩
theorem S8 {X:Cx}{c:Expr}{t:TT} (hc:PT X c t):Fo X [c] t:=fun pins s σ H Q I h=>by
 rw [List.forIn_cons]
 refine wpAny_bind (wpAny_bind (dO (hc pins s σ H Q I h) fun b s1 q=>wpAny_pure ?_))
 exact wpAny_pure q
theorem vJ {prog:Program}{w:World}{A:Around}{R:Result→Shared→Prop}{s:Shared}{elt target iter:Expr}{ifs:List Expr}{scope:Scope}{pos:Pos}{it acc:Value}{env:Env} (I:Nat→Shared→Prop)
   (turn:∀ n s,I n s→wpAny (model prog w) A (pyNext it) (fun r s₁=>match r with
     | none=>R (.ok .next) s₁
     | some v=>wpAny (model prog w) A (letOwnedTupleGo target it v) (fun _ s₂=>wpAny (model prog w) A (assign target env v) (fun _ s₃ =>
         wpAny (model prog w) A (forIn ifs true fun c r=>if r=true then do let ok ← isTrue c env (eval c env);pure (ForInStep.yield ok) else pure (ForInStep.yield r)) (fun ok s₄ =>
           if ok=true then wpAny (model prog w) A (eval elt env) (fun x s₅ =>
             wpAny (model prog w) A (call (.builtin "list.append") [acc,x]) (fun _ s₆=>∃ m,m<n∧I m s₆) (notedBy (model prog w) A env fun e s'=>R (.error e) s') s₅)
             (notedBy (model prog w) A env fun e s'=>R (.error e) s') s₄ else ∃ m,m<n∧I m s₄)
           (notedBy (model prog w) A env fun e s'=>R (.error e) s') s₃) (notedBy (model prog w) A env fun e s'=>R (.error e) s') s₂) (notedBy (model prog w) A env fun e s'=>R (.error e) s') s₁)
     (notedBy (model prog w) A env fun e s'=>R (.error e) s') s)
   (n:Nat) (h:I n s):codeAny (model prog w) A (.compLoop (.ListComp elt [⟨target,iter,ifs,0⟩] scope pos) 0 it acc env) R s:=by
 refine codeAny_loop rfl I (fun n s hI=>?_) n h
 show wpAny _ A ((compTurn (.ListComp elt [⟨target,iter,ifs,0⟩] scope pos) 0 it acc env).onRaise (fun x=>do noteFrame x env;theTreesLotGoes x)) _ _ s
 refine wpAny_noted ?_
 rw [compTurn_list]
 refine wpAny_bind (wpAny_standAt (wpAny_bind (wpAny_mono (turn n s hI) (fun r s₁ h₁=>?_) fun _ _ h'=>h')))
 cases r with
 | none=>exact wpAny_pure h₁
 | some v =>
   refine wpAny_bind (wpAny_mono h₁ (fun _ s₂ h₂=>wpAny_bind (wpAny_mono h₂ (fun _ s₃ h₃=>?_) fun _ _ h'=>h')) fun _ _ h'=>h')
   refine wpAny_bind (wpAny_mono h₃ (fun ok s₄ h₄=>?_) fun _ _ h'=>h')
   cases ok with
   | false=>exact wpAny_pure ⟨rfl,h₄⟩
   | true=>exact wpAny_bind (wpAny_bind (wpAny_mono h₄ (fun x s₅ h₅=>wpAny_bind (wpAny_mono h₅ (fun _ s₆ h₆=>wpAny_pure (wpAny_pure ⟨rfl,h₆⟩)) fun _ _ h'=>h')) fun _ _ h'=>h'))
def fu (X:Cx) (scope:Scope) (C:Addr) (x y:Str) (M:List Str) (s₂:Shared) (H₂:Hp) (fp:List Addr):Cx :=
 { X with N:=x::y::M,s₀:=s₂,H₀:=H₂,env:=compEnvC scope (gY X.env scope.names []) C X.env,outer:=X.stack,ex:=fp,fn:=fun _=>false,pn:=[],xe:=fun _ _=>False }
structure sr (X:Cx) (scope:Scope) (x y:Str) (M:List Str):Prop where
 base:cM X scope x M
 adP:scope.names.lookup y=some .local
 nd2:(x::y::M).Nodup
theorem ue {X:Cx}{scope:Scope}{x y:Str}{M:List Str} (h:cM X scope x M) (h1:scope.names.lookup y=some .local) (h2:(x::y::M).Nodup):sr X scope x y M:=⟨h,h1,h2⟩
section
variable {X:Cx}{scope:Scope}{x y:Str}{M:List Str}{pins:List (Addr × Obj)}{σ:St}{H₂:Hp}{s₂:Shared}{elt iter tg:Expr}{ifs:List Expr}{pos:Pos}{te:TE}{wi:TI}{g:TG}{tc:TT}
theorem QJ (K:sr X scope x y M) (I:Inv X pins σ H₂ s₂) {fp:List Addr} (hf:∀ b∈fp,kZ X pins H₂ b) (hfl:∀ b∈fp,b<s₂.heap.objs.size) {C:Addr} (hC:s₂.heap.objs.size≤C) {h₁:Heap}{t:Nat}{m:Str→Option Value} (hn:h₁.Ns C m)
   (hk:∀ b o,s₂.heap.get? b=some o→h₁.get? b=some o):Inv (fu X scope C x y M s₂ H₂ fp) [] (none::none::σ) H₂ { s₂ with heap:=h₁,toks:=t }:=by
 have I1:=Ci (t:=t) K.base I hf hfl hC hn hk
 have ok:(fu X scope C x y M s₂ H₂ fp).Ok:=by
   obtain⟨a1,a2,a3,a4,a5,a6,a7,a8,a9,a10,a11,a12,a13,a14,a15,a16,a17,a18⟩:=I1.ok
   exact⟨a1,a2,a3,a4,a5,a6,a7,a8,a9,a10,a11,a12,a13,a14,a15,a16,a17,a18⟩
 obtain⟨m',ns',lo⟩:=I1.loc
 refine⟨ok,I1.os,I1.bare,I1.base,⟨m',ns',fun i z v e1 e2 e3=>?_⟩,I1.cell,I1.free,I1.jM,I1.pin,I1.hok,?_⟩
 · match i,e1,e2 with
   | 0,_,e2=>cases e2
   | 1,_,e2=>cases e2
   | j+2,e1,e2=>exact lo (j+1) z v e1 e2 e3
 · have:=I1.len
   show (none::none::σ).length=(x::y::M).length
   have h2:(none::σ).length=(x::M).length:=this
   simp only [List.length_cons] at h2 ⊢
   omega
def aad (wi:TI) (g:TG) (tc:TT) (te:TE):TE:=fun σ H Q=>wi σ H fun J H1=>∃ (n:Nat) (W:Nat→List V→Hp→Prop),n≤sizeLine∧W 0 [] H1∧∀ i ys H,i≤n→ys.length≤i→W i ys H →
 (J.stop i H∧∀ p,H p=none→Q (.ref p) (upd H p (.lst ys)))∨(J.go i H∧i<n∧∀ x H',J.Ml i H x H'→∀ u v,g x (u::v::σ) H' fun ρ H2=>(∃ u' v',ρ=u'::v'::σ)∧tc ρ H2 fun c H3=>if c=true then te ρ H3 fun z H4=>W (i+1) (ys++[z]) H4 else W (i+1) ys H3)
theorem J4 (K:sr X scope x y M) (hc:X.calm=true) (I:Inv X pins σ H₂ s₂) (hg:∀ (C:Addr) (s₂:Shared) (H₂:Hp) (fp:List Addr),PG (fu X scope C x y M s₂ H₂ fp) tg g) (ht:∀ (C:Addr) (s₂:Shared) (H₂:Hp) (fp:List Addr),Fo (fu X scope C x y M s₂ H₂ fp) ifs tc) (he:∀ (C:Addr) (s₂:Shared) (H₂:Hp) (fp:List Addr),PE (fu X scope C x y M s₂ H₂ fp) elt te)
   {it:Addr}{fp:List Addr}{tn:Nat→Heap→Prop}{J:It} (T:Turn X.prog X.w X.K tg J fp it tn) (st:tn 0 s₂.heap) (hf:∀ b∈fp,kZ X pins H₂ b) {n:Nat} (hsz:n≤sizeLine) {W:Nat→List V→Hp→Prop}{F:List V→Hp→Prop}
   (w0:W 0 [] H₂) (turn:∀ i ys H,i≤n→ys.length≤i→W i ys H→(J.stop i H∧F ys H)∨(J.go i H∧i<n∧∀ x H',J.Ml i H x H'→∀ u v,g x (u::v::σ) H' fun ρ H2=>(∃ u' v',ρ=u'::v'::σ)∧tc ρ H2 fun c H3=>if c=true then te ρ H3 fun z H4=>W (i+1) (ys++[z]) H4 else W (i+1) ys H3))
   {E:Value→Shared→Prop}{RR:Value→Addr→Result→Shared→Prop}
   (hRR:∀ (D C:Addr) (s':Shared) (H':Hp) (ys:List V) (m:Str→Option Value),Inv X pins σ (upd H' D (.lst ys)) s'→H' D=none→kZ X pins (upd H' D (.lst ys)) C→s'.heap.Ns C m→F ys H'→RR (.ref D) C (.ok .next) s') :
   wpAny (model X.prog X.w) X.A (newList []) (fun acc s₃=>wpAny (model X.prog X.w) X.A (newFunctionEnv scope X.env.globals (gY X.env scope.names []) [] X.env.qual none .none (some X.env)) (fun cenv s₄ =>
     codeAny (model X.prog X.w) X.A (.compStart (.ListComp elt [⟨tg,iter,ifs,0⟩] scope pos) 0 (.ref it) acc { cenv with scope:=relabel scope X.env }) (RR acc cenv.locals) s₄) E s₃) E s₂:=by
 refine wpAny_newObj_type (wpAny_newFunctionEnv K.base.cell (by intro y hy;simp at hy) (fun h₁ hns₁ hsb₁=>?_) K.base.kind)
 dsimp only at hns₁ hsb₁ ⊢
 generalize hH2:s₂.heap.push { cls:=.type "list",dict:=none,data:=.seq ([]:List Value).toArray } = H2 at hns₁ hsb₁ ⊢
 have hC:H2.objs.size=s₂.heap.objs.size+1:=by rw [← hH2,Heap.size_push]
 have hDC:s₂.heap.objs.size≠H2.objs.size:=by rw [hC];exact Nat.ne_of_lt (Nat.lt_succ_self _)
 have below:∀ b,b<s₂.heap.objs.size→b≠H2.objs.size∧b≠s₂.heap.objs.size:=fun b hb=>⟨by rw [hC];exact Nat.ne_of_lt (Nat.lt_succ_of_lt hb),Nat.ne_of_lt hb⟩
 have hfl:∀ b∈fp,b<s₂.heap.objs.size:=fun b hb=>by obtain⟨o,e,_⟩:=T.obj _ _ st b hb;exact Heap.lt_size e
 have old:∀ b o,s₂.heap.get? b=some o→h₁.get? b=some o:=fun b o e=>hsb₁.extBut b o (below b (Heap.lt_size e)).1 (Heap.get?_push_of_some _ (hH2 ▸ Heap.get?_push_of_some _ e))
 have hacc:h₁.get? s₂.heap.objs.size=some { cls:=.type "list",data:=.seq ([]:List Value).toArray 0 }:=hsb₁.extBut _ _ hDC (Heap.get?_push_of_some _ (hH2 ▸ Heap.get?_push_size _ rfl))
 generalize hCC:H2.objs.size=C at *
 generalize tO:s₂.heap.objs.size=D at *
 have hCle:s₂.heap.objs.size≤C:=by rw [tO,hC];exact Nat.le_succ _
 have st₁:tn 0 h₁:=T.keep _ _ _ st fun b _ o e=>old b o e
 have I₁:=QJ (t:=s₂.toks+([]:List (Str × Value)).length) K I hf (fun b hb=>by rw [tO];exact hfl b hb) hCle hns₁ old
 generalize hX':fu X scope C x y M s₂ H₂ fp=X' at I₁
 have eX:X'.prog=X.prog∧X'.w=X.w∧X'.K=X.K∧X'.calm=true∧X'.A=X.A∧X'.ex=fp∧X'.env=compEnvC scope (gY X.env scope.names []) C X.env∧X'.s₀=s₂∧X'.pn=[]:=by
   subst hX';exact⟨rfl,rfl,rfl,hc,rfl,rfl,rfl,rfl,rfl⟩
 obtain⟨eP,ew,eK,ec,eA,eex,Am,Yw,R4⟩:=eX
 have eL:X'.env.locals=C:=by rw [Am];rfl
 have cells':∀ y c,X'.env.cells.lookup y=some c→X.env.cells.lookup y=some c:=fun y c e=>by rw [Am] at e;exact cM.tM e
 have efs:X'.fs=frs X.stack:=by subst hX';rfl
 have vB:∀ b∈X'.fs,b=X.env.locals∨b∈X.fs:=fun b hb=>List.mem_cons.mp (I.wQ b (by rw [← efs];exact hb))
 have Ck:∀ {pn:List (Addr × Obj)}{H':Hp},(∀ p∈pn,p.1=D)→(∀ b∈fp,H' b=none)→∀ b∈fp,kZ X' pn H' b:=fun {pn H'} hp hn b hb=>by
   refine⟨hn b hb,?_,fun z=>?_,.inl (by rw [eex];exact hb),fun y c e=>(hf b hb).2.2.2.2.1 y c (cells' y c e),fun p hq=>?_⟩
   · rw [eL];exact (below b (hfl b hb)).1
   · rcases vB b z with q | q
     · exact (hf b hb).2.1 q
     · exact (hf b hb).2.2.1 q
   · rw [R4,List.nil_append] at hq
     rw [hp p hq];exact Ne.symm (below b (hfl b hb)).2
 have Dfp:D∉fp:=fun z=>Nat.lt_irrefl _ (hfl D z)
 have JZ:X.env.locals<D:=by have:=I.lt;rw [tO] at this;exact this
 have R6:∀ b∈X.fs,b<D:=fun b hb=>Nat.lt_of_not_le fun z=>I.Wf (a:=b) (by rw [tO];exact z) hb
 have J0:∀ {b:Addr}{pn:List (Addr × Obj)}{H':Hp},D≤b→b≠C→H' b=none→(∀ p∈pn,p.1≠b)→kZ X' pn H' b:=fun {b pn H'} hb hbC hn hp=>by
   refine⟨hn,by rw [eL];exact hbC,fun z=>?_,.inr (by rw [Yw,tO];exact hb),fun y c e=>?_,fun p hq=>?_⟩
   · rcases vB b z with q | q
     · rw [q] at hb;exact absurd (Nat.lt_of_lt_of_le JZ hb) (Nat.lt_irrefl _)
     · exact absurd (Nat.lt_of_lt_of_le (R6 b q) hb) (Nat.lt_irrefl _)
   · obtain⟨v,o,ho,_⟩:=I.cell y c (cells' y c e)
     have:=Heap.lt_size ho
     rw [tO] at this
     exact Nat.ne_of_lt (Nat.lt_of_lt_of_le this hb)
   · rw [R4,List.nil_append] at hq
     exact hp p hq
 have outer:∀ {σ':St}{H':Hp}{s':Shared}{pn:List (Addr × Obj)},Inv X' pn σ' H' s'→Inv X pins σ H' s':=fun {σ' H' s' pn} J'=>by
   subst hX'
   refine I.call' (ch:=fp) J'.os J'.base J'.hok J'.bare fun b hb=>?_
   obtain⟨f0,f1,f2,f3,f4,f5⟩:=hf b hb
   exact⟨f3,f1,f4,f5⟩
 have zp:∀ {b:Addr}{H':Hp},D≤b→H' b=none→kZ X pins H' b:=fun {b H'} hb hn=>by
   have q:=I.JC (H':=H') (b:=b) (by rw [tO];exact hb) hn
   exact q
 have loop:∀ s₃:Shared,s₃={ s₂ with heap:=h₁,toks:=s₂.toks+([]:List (Str × Value)).length } →
     codeAny (model X.prog X.w) X.A (.compLoop (.ListComp elt [⟨tg,iter,ifs,0⟩] scope pos) 0 (.ref it) (.ref D) (compEnvC scope (gY X.env scope.names []) C X.env)) (RR (.ref D) C) s₃:=by
   rintro s₃ rfl
   refine vJ (fun k s'=>∃ (i:Nat) (ys:List V) (its:List Value) (σ0 σ1:Option V) (H':Hp),i≤n∧k=n+1 - i∧ys.length≤i∧Inv X' [] (σ0::σ1::σ) H' s'∧tn i s'.heap∧(∀ b∈fp,H' b=none)∧H' D=none∧Vals ys its ∧
     (∃ c,s'.heap.get? D=some { cls:=.type "list",data:=.seq its.toArray c })∧W i ys H') ?_ (n+1) ⟨0,[],[],none,none,H₂,Nat.zero_le _,rfl,Nat.le_refl _,I₁,st₁,fun b hb=>(hf b hb).1,by rw [← tO];exact I.hok.fresh (Nat.le_refl _),.nil,⟨0,hacc⟩,w0⟩
   rintro k s' ⟨i,ys,its,σ0,σ1,H',hi,rfl,hyl,I',st',fr',hD',rv,⟨c,hobj⟩,w'⟩
   rcases turn i ys H' hi hyl w' with ⟨stop,fin⟩ | ⟨go,hlt,step⟩
   · have Cm:Inv X' [(D,{ cls:=.type "list",data:=.seq its.toArray c })] (σ0::σ1::σ) H' s':=I'.gm fun p hp=>by
       obtain rfl:p=(D,{ cls:=.type "list",data:=.seq its.toArray c }):=by simpa using hp
       refine⟨hobj,hD',?_,?_,fun v z=>nomatch z⟩
       · rw [eL];exact hDC
       · intro z
         rcases vB D z with q | q
         · rw [q] at JZ;exact Nat.lt_irrefl _ JZ
         · exact Nat.lt_irrefl _ (R6 D q)
     have q:=T.done X' eP ew eK ec i _ s' (σ0::σ1::σ) H' (notedBy (model X.prog X.w) X.A (compEnvC scope (gY X.env scope.names []) C X.env) fun e s'=>RR (.ref D) C (.error e) s') Cm (Ck (fun p hp=>by obtain rfl:p=(D,{ cls:=.type "list",data:=.seq its.toArray c }):=(by simpa using hp);rfl) fr') st' stop
     rw [eA] at q
     refine wpAny_mono q (fun r s4 ⟨hr,I4⟩=>?_) fun _ _ z=>z
     subst hr
     obtain⟨e4,n4,_⟩:=I4.pin (D,{ cls:=.type "list",data:=.seq its.toArray c }) (List.mem_append_right _ (by simp))
     have O4:=outer I4
     obtain⟨m4,Yx,_⟩:=I4.loc
     rw [eL] at Yx
     refine hRR D C s4 H' ys m4 (O4.track (zp (Nat.le_refl _) n4) (Nat.le_trans I.sz (by rw [tO];exact Nat.le_refl _)) ⟨Nat.le_trans hyl (Nat.le_trans hi hsz),its,c,rv,e4⟩) n4 (zp (by rw [hC];exact Nat.le_succ _) ?_) Yx fin
     rw [zI (Ne.symm hDC)]
     have:=I4.free
     rw [eL] at this
     exact this
   · have Cm:Inv X' [(D,{ cls:=.type "list",data:=.seq its.toArray c })] (σ0::σ1::σ) H' s':=I'.gm fun p hp=>by
       obtain rfl:p=(D,{ cls:=.type "list",data:=.seq its.toArray c }):=by simpa using hp
       refine⟨hobj,hD',?_,?_,fun v z=>nomatch z⟩
       · rw [eL];exact hDC
       · intro z
         rcases vB D z with q | q
         · rw [q] at JZ;exact Nat.lt_irrefl _ JZ
         · exact Nat.lt_irrefl _ (R6 D q)
     have pd:∀ p∈[(D,({ cls:=.type "list",data:=.seq its.toArray c }:Obj))],p.1=D:=fun p hp=>by obtain rfl:p=(D,{ cls:=.type "list",data:=.seq its.toArray c }):=(by simpa using hp);rfl
     have q:=T.item X' eP ew eK ec i _ s' (σ0::σ1::σ) H' (notedBy (model X.prog X.w) X.A (compEnvC scope (gY X.env scope.names []) C X.env) fun e s'=>RR (.ref D) C (.error e) s') Cm (Ck pd fr') st' go
     rw [eA] at q
     refine wpAny_mono q (fun r s4 ⟨u,hr,h4⟩=>?_) fun _ _ z=>z
     subst hr
     refine wpAny_mono h4 (fun _ s5 ⟨xv,H5,I5,r5,y5,Hu,ZL⟩=>?_) fun _ _ z=>z
     have ZM:=I5.pinned (Ck pd ZL) (T.obj _ _ Hu)
     rw [← Am]
     have g6:=step xv H5 y5 σ0 σ1
     have q6:=(hg C s₂ H₂ fp) (([(D,({ cls:=.type "list",data:=.seq its.toArray c }:Obj))])++o8 fp s5.heap) s5 (σ0::σ1::σ) H5 xv u _ (by rw [hX'];exact ZM) r5 g6
     rw [hX',eP,ew,eA] at q6
     refine wpAny_mono q6 (fun _ s6 ⟨ρ,H6,I6,⟨u',v',eρ⟩,t6⟩=>?_) (fun _ _ z=>by subst hX';exact (show False from z).elim)
     subst eρ
     have q7:=(ht C s₂ H₂ fp) _ s6 (u'::v'::σ) H6 _ (by rw [hX'];exact I6) t6
     rw [hX',eP,ew,eA] at q7
     refine wpAny_mono q7 (fun ok s7 ⟨H7,I7,w7⟩=>?_) (fun _ _ z=>by subst hX';exact (show False from z).elim)
     have adQ:∀ {s8:Shared}{H8:Hp}{pn:List (Addr × Obj)},Inv X' (pn++(([(D,({ cls:=.type "list",data:=.seq its.toArray c }:Obj))])++o8 fp s5.heap)) (u'::v'::σ) H8 s8→True:=fun _=>trivial
     cases ok with
     | false =>
       obtain⟨e7,n7,_⟩:=I7.pin (D,{ cls:=.type "list",data:=.seq its.toArray c }) (List.mem_append_right _ (List.mem_append_left _ (by simp)))
       refine⟨n+1 - (i+1),by omega,i+1,ys,its,u',v',H7,hlt,rfl,Nat.le_succ_of_le hyl,I7.gm (BJ:=[]) fun p hp=>absurd hp (by simp),?_,fun b hb=>?_,n7,rv,⟨c,e7⟩,w7⟩
       · refine T.keep _ _ _ Hu fun b hb o e=>?_
         exact (I7.pin (b,o) (List.mem_append_right _ (List.mem_append_right _ (yP hb e)))).1
       · obtain⟨o,e,d⟩:=T.obj _ _ Hu b hb
         exact (I7.pin (b,o) (List.mem_append_right _ (List.mem_append_right _ (yP hb e)))).2.1
     | true =>
       have q8:=(he C s₂ H₂ fp) _ s7 (u'::v'::σ) H7 (fun z Pn=>W (i+1) (ys++[z]) Pn) (by rw [hX'];exact I7) w7
       rw [hX',eP,ew,eA] at q8
       refine wpAny_mono q8 (fun u8 s8 ⟨v8,H8,I8,r8,w8⟩=>?_) (fun _ _ z=>by subst hX';exact (show False from z).elim)
       obtain⟨e7,n7,_⟩:=I8.pin (D,{ cls:=.type "list",data:=.seq its.toArray c }) (List.mem_append_right _ (List.mem_append_left _ (by simp)))
       refine append_at (hsz:=by rw [List.size_toArray,← rv.length];exact Nat.le_trans hyl (Nat.le_trans hi hsz)) e7 fun h8 Yy g8=>?_
       have I9:Inv X' [] (u'::v'::σ) H8 { s8 with heap:=h8,toks:=s8.toks }:=(I8.gm (BJ:=[]) fun p hp=>absurd hp (by simp)).turned (t':=s8.toks) (it:=D) (fun b o hb e=>(Yy.2 b hb).trans e) n7 (by rw [eL];exact hDC) (.inr (by rw [Yw,tO];exact Nat.le_refl _))
         (J0 (H':=H8) (pn:=[]) (Nat.le_refl _) hDC n7 (fun p hp=>absurd hp (by simp))).2.2.2.2.1 (fun p hp=>by rw [R4] at hp;exact absurd hp (by simp))
       refine⟨n+1 - (i+1),by omega,i+1,ys++[v8],its++[u8],u',v',H8,hlt,rfl,by rw [List.length_append,List.length_singleton];omega,I9,?_,fun b hb=>?_,n7,rv.append (.cons r8 .nil),⟨c+1,?_⟩,w8⟩
       · refine T.keep _ _ _ Hu fun b hb o e=>?_
         have e':=(I8.pin (b,o) (List.mem_append_right _ (List.mem_append_right _ (yP hb e)))).1
         exact (Yy.2 b (fun z=>Dfp (z ▸ hb))).trans e'
       · obtain⟨o,e,d⟩:=T.obj _ _ Hu b hb
         exact (I8.pin (b,o) (List.mem_append_right _ (List.mem_append_right _ (yP hb e)))).2.1
       · rw [g8,List.push_toArray]
 exact codeAny_compStart_list (loop _ rfl) (T.self X.A 0 _ _ _ st₁ (loop _ rfl))
theorem S9 (K:sr X scope x y M) (hc:X.calm=true) (hi:PI X tg iter wi) (hg:∀ (C:Addr) (s₂:Shared) (H₂:Hp) (fp:List Addr),PG (fu X scope C x y M s₂ H₂ fp) tg g) (ht:∀ (C:Addr) (s₂:Shared) (H₂:Hp) (fp:List Addr),Fo (fu X scope C x y M s₂ H₂ fp) ifs tc) (he:∀ (C:Addr) (s₂:Shared) (H₂:Hp) (fp:List Addr),PE (fu X scope C x y M s₂ H₂ fp) elt te)
   (hs:∀ x,foldedSetIterable iter X.env x=pure x:=by intro _;rfl):PE X (.ListComp elt [⟨tg,iter,ifs,0⟩] scope pos) (aad wi g tc te):=by
 intro pins s σ H Q I h
 rw [eval_ListComp]
 refine wpAny_comprehension_free (use:=none) rfl hs (K.base.closure I.ok) K.base.kind K.base.names (dO (hi pins s σ H _ I h) fun v s1 h1=>dO h1 fun itv s2 h2=>?_)
 obtain⟨it,fp,tn,J,H2,e,I2,T,st2,f2,n,W,hsz,w0,turn⟩:=h2
 subst e
 refine J4 (RR:=fun acc C=>compPost (model X.prog X.w) X.A X.xe none (EP X pins σ Q) acc C) K hc I2 hg ht he T st2 f2 hsz (F:=fun ys H=>∀ p,H p=none→Q (.ref p) (upd H p (.lst ys))) w0 turn ?_
 intro D C s' H' ys m I' n' fC ns fin
 refine⟨m,ns,fun h' sb=>?_⟩
 obtain⟨f0,f1,f2,f3,f4,f5⟩:=fC
 exact⟨.ref D,_,I'.turned (t':=s'.toks) (it:=C) (fun b o hb e=>(sb.2 b hb).trans e) f0 f1 f3 f4 f5,rfl,fin D n'⟩
end
end L2
namespace L2
open PySem PySem.Spec PyProof.Rows PySem.Calls
section
variable {X:Cx}{scope:Scope}{x y:Str}{M:List Str}{elt iter:Expr}{ifs:List Expr}{pos p1 p2 p3:Pos}{kk:Nat}{te:TE}{wi:TI}{tc:TT}
structure Tc (K:PySem.W.Frag) (J:It) (tc:TT) (te:TE) (σ:St) (H1:Hp) (Q:VK):Prop where
 ex:∃ (n:Nat) (W:Nat→List V→Hp→Prop),n≤sizeLine∧W 0 [] H1∧∀ i ys H,i≤n→ys.length≤i→W i ys H →
   (J.stop i H∧∀ p,H p=none→Q (.ref p) (upd H p (.lst ys)))∨(J.go i H∧i<n∧∀ z H',J.Ml i H z H'→∃ (p:Addr) (a b:V),z=.ref p∧eY K H' p [a,b]∧tc (some a::some b::σ) H' fun c H3=>if c=true then te (some a::some b::σ) H3 fun z H4=>W (i+1) (ys++[z]) H4 else W (i+1) ys H3)
def aae (K:PySem.W.Frag) (wi:TI) (tc:TT) (te:TE):TE:=fun σ H Q=>wi σ H fun J H1=>Tc K J tc te σ H1 Q
theorem aaf (K:sr X scope x y M) (hc:X.calm=true) {C:Addr}{s₂:Shared}{H₂:Hp}{fp:List Addr}:PG (fu X scope C x y M s₂ H₂ fp) (.Tuple [.Name x p1,.Name y p2] kk p3) (adl X.K 2 (Rp (bO 0) (Rp (bO 1) adk))) :=
 Ht (X:=fu X scope C x y M s₂ H₂ fp) hc (jN (yW K.nd2 rfl (.inl (lookup_relabel_local K.base.loc)) (.inr (lookup_relabel_local K.base.loc))) (jN (yW K.nd2 rfl (.inl (lookup_relabel_local K.adP)) (.inr (lookup_relabel_local K.adP))) Bq))
theorem Cy (K:sr X scope x y M) (hc:X.calm=true) (hi:PI X (.Tuple [.Name x p1,.Name y p2] kk p3) iter wi) (ht:∀ (C:Addr) (s₂:Shared) (H₂:Hp) (fp:List Addr),Fo (fu X scope C x y M s₂ H₂ fp) ifs tc) (he:∀ (C:Addr) (s₂:Shared) (H₂:Hp) (fp:List Addr),PE (fu X scope C x y M s₂ H₂ fp) elt te)
   (hs:∀ x,foldedSetIterable iter X.env x=pure x:=by intro _;rfl):PE X (.ListComp elt [⟨.Tuple [.Name x p1,.Name y p2] kk p3,iter,ifs,0⟩] scope pos) (aae X.K wi tc te):=by
 intro pins s σ H Q I h
 have q:=S9 (pos:=pos) K hc (wi:=fun σ0 H0 R0=>∃ R,wi σ0 H0 R∧∀ J H1,R J H1→R0 J H1) (vD hi fun σ H R ⟨R1,a,b⟩=>⟨R1,a,b⟩) (fun C s₂ H₂ fp=>aaf (p1:=p1) (p2:=p2) (p3:=p3) (kk:=kk) K hc) ht he hs pins s σ H Q I
 refine q ⟨_,h,fun J H1 r=>?_⟩
 obtain⟨n,W,h1,h2,h3⟩:=r.ex
 refine⟨n,W,h1,h2,fun i ys H' hi hy hw=>?_⟩
 rcases h3 i ys H' hi hy hw with hq | ⟨g1,g2,g3⟩
 · exact .inl hq
 · refine .inr ⟨g1,g2,fun z H2 hz u v=>?_⟩
   obtain⟨p,a,b,e,hq,t⟩:=g3 z H2 hz
   exact⟨p,[a,b],e,hq,rfl,a,[b],rfl,b,[],rfl,rfl,⟨_,_,rfl⟩,t⟩
end
theorem uf {K:PySem.W.Frag}{a:Addr}{xs:List V}{tc:TT}{te:TE}{σ:St}{H:Hp}{Q:VK} (hz:xs.length≤sizeLine) (W:Nat→List V→Hp→Prop) (h0:W 0 [] H) (hq:∀ i ys H,W i ys H→cB K H a xs)
   (hs:∀ i x ys H,xs[i]? = some x→ys.length≤i→W i ys H→∃ (p:Addr) (u v:V),x=.ref p∧eY K H p [u,v]∧tc (some u::some v::σ) H fun c H3=>if c=true then te (some u::some v::σ) H3 fun z H4=>W (i+1) (ys++[z]) H4 else W (i+1) ys H3)
   (hd:∀ ys H,W xs.length ys H→∀ p,H p=none→Q (.ref p) (upd H p (.lst ys))):Tc K (Yq K a) tc te σ H Q:=by
 refine⟨xs.length,W,hz,h0,fun i ys H hi hl hw=>?_⟩
 have q:=hq i ys H hw
 by_cases hlt:i<xs.length
 · refine .inr ⟨⟨xs,xs[i],q,by simp [hlt]⟩,hlt,fun v H' y=>?_⟩
   obtain⟨e,y⟩:=y
   subst e
   exact hs i v ys _ (y xs q) hl hw
 · have e:i=xs.length:=by omega
   subst e
   exact .inl ⟨⟨xs,q,Nat.le_refl _⟩,hd ys H hw⟩
section
variable {prog:Program}{w:World}{A:Around}{E:Value→Shared→Prop}{s:Shared}
end
section
variable {X:Cx}
end
section
variable {X:Cx}{tg:Expr}
end
end L2
namespace L2
open PySem PySem.Spec PyProof.Rows PySem.Calls
end L2
namespace L2
open PySem PySem.Spec PyProof.Rows PySem.Calls
end L2
namespace L2
open PySem PySem.Spec PyProof.Rows PySem.Calls
open PySem.W (tabObj CodeHd kla_obj kla_fn)
def qF (c:Addr) (v:V):HO:=.ext fun h=>∃ u,RelV v u∧h.IsCell c (some u)
def J5 (c:Addr) (q:Str):HO:=.ext fun h=>h.CodeRec (.ref c) q
def Fz (H:Hp) (b:Addr) (u:HO):Prop:=∃ o,H b=some (.sI o u)
structure jO where
 qual:Str
 params:Arguments
 body:Expr
 scope:Scope
 x:Str
 ys:List Str
structure jO.Ok (D:jO):Prop where
 kind:D.scope.kind=.function
 co:D.scope.isCoroutine=false
 gen:D.scope.isGenerator=false
 names:D.scope.names=(D.x,.local)::D.ys.reverse.map fun y=>(y,.free)
 nd:(D.x::D.ys).Nodup
 bind:∀ (cs:List (Str × Addr)) (pm cdv ct u:Value),bindArgs (kla_fn "<lambda>" D.qual D.params D.body D.scope cs pm cdv ct) ⟨[u],[]⟩=pure [(D.x,u)]
def MT (D:jO) (p:Addr) (cs:List (Str × Addr)) (c':Addr):HO:=.ext fun h=>∃ pm ctv,h.get? p=some (kla_obj "<lambda>" D.qual D.params D.body D.scope cs pm c' ctv)
structure Cz (D:jO) (H:Hp) (p:Addr) (cs:List (Str × Addr)) (vs:List V):Prop where
 code:∃ c',H p=some (MT D p cs c')∧Fz H c' (J5 c' D.qual)
 ys:cs.map (·.1)=D.ys
 nd:(cs.map (·.2)).Nodup
 cells:Paired (fun (y:Str × Addr) v=>Fz H y.2 (qF y.2 v)) cs vs
theorem IsCell.one {h1 h2:Heap}{c:Addr}{v:Option Value} (x:h1.IsCell c v) (k:∀ o,h1.get? c=some o→h2.get? c=some o):h2.IsCell c v:=by
 obtain⟨o,ho,hd⟩:=x
 exact⟨o,k o ho,hd⟩
theorem J6 {P:Program}{w:World}{H:Hp}{h:Heap}{c:Addr}{v:V}{u:Value} (r:RelV v u) (x:h.IsCell c (some u)):cD P w H h c (qF c v):=by
 obtain⟨o,ho,hd⟩:=x
 refine⟨⟨u,r,o,ho,hd⟩,⟨o,ho⟩,fun h1 h2 y k=>?_⟩
 obtain⟨u,r,x⟩:=y
 exact⟨u,r,IsCell.one x k⟩
theorem Td {P:Program}{w:World}{H:Hp}{h:Heap}{c:Addr}{q:Str} (x:h.CodeRec (.ref c) q):cD P w H h c (J5 c q):=by
 refine⟨x,?_,fun h1 h2 x k=>?_⟩
 · obtain⟨c',o,vs,t,e,g,r⟩:=x
   cases e
   exact⟨o,g⟩
 · obtain⟨c',o,vs,t,e,g,r⟩:=x
   cases e
   exact⟨c,o,vs,t,rfl,k o g,r⟩
theorem WR {P:Program}{w:World}{H:Hp}{h:Heap}{D:jO}{p c':Addr}{cs:List (Str × Addr)}{pm ctv:Value} (x:h.get? p=some (kla_obj "<lambda>" D.qual D.params D.body D.scope cs pm c' ctv)):cD P w H h p (MT D p cs c'):=by
 refine⟨⟨pm,ctv,x⟩,⟨_,x⟩,fun h1 h2 y k=>?_⟩
 obtain⟨pm,ctv,x⟩:=y
 exact⟨pm,ctv,k _ x⟩
def dels (H:Hp) (ca:List Addr):Hp:=fun b=>if b∈ca then none else H b
def back (H:Hp) (ca:List Addr) (H1:Hp):Hp:=fun b=>if b∈ca then H b else H1 b
theorem su {H:Hp}{ca:List Addr}{b:Addr} (h:b∈ca):dels H ca b=none:=if_pos h
theorem xA {H:Hp}{ca:List Addr}{b:Addr} (h:b∉ca):dels H ca b=H b:=if_neg h
theorem back_in {H H1:Hp}{ca:List Addr}{b:Addr} (h:b∈ca):back H ca H1 b=H b:=if_pos h
theorem jP {H H1:Hp}{ca:List Addr}{b:Addr} (h:b∉ca):back H ca H1 b=H1 b:=if_neg h
theorem lH {H:Hp}{ca:List Addr}{b:Addr} (h:H b=none):dels H ca b=none:=by
 by_cases e:b∈ca
 · exact su e
 · rw [xA e];exact h
theorem aB.back {H H1:Hp}{ca:List Addr} (e:aB (dels H ca) H1):aB H (back H ca H1):=fun b u q=>by
 by_cases z:b∈ca
 · rw [back_in z];exact q
 · rw [jP z];exact e b u (by rw [xA z];exact q)
theorem rT.dels {P:Program}{w:World}{H:Hp}{h:Heap}{ca:List Addr} (x:rT P w H h) (f:∀ c∈ca,∃ u,Fz H c u):rT P w (dels H ca) h:=fun b o e=>by
 by_cases hb:b∈ca
 · rw [su hb] at e;cases e
 · rw [xA hb] at e
   refine (x b o e).stay (fun _ _ _ q=>q) (fun d q=>?_) fun d xs q=>?_
   · rw [xA fun z=>?_];exact q
     obtain⟨u,o,z⟩:=f d z
     rw [q] at z;cases z
   · rw [xA fun z=>?_];exact q
     obtain⟨u,o,z⟩:=f d z
     rw [q] at z;cases z
theorem QK {F:Str × Addr→V→Prop}{cs:List (Str × Addr)}{vs:List V} (h:Paired F cs vs):(cs.map (·.1)).Nodup→∀ {i:Nat}{y:Str}{v:V},(cs.map (·.1))[i]? = some y→vs[i]? = some v→∃ c,cs.lookup y=some c∧F (y,c) v:=by
 induction h with
 | nil=>intro _ i y v e;simp at e
 | @cons a b la lb r t ih =>
   intro nd i y v e1 e2
   obtain⟨a1,a2⟩:=a
   cases i with
   | zero =>
     simp at e1 e2
     subst e1;subst e2
     exact⟨a2,by rw [List.lookup_cons,beq_self_eq_true],r⟩
   | succ i =>
     simp only [List.map_cons,List.getElem?_cons_succ] at e1 e2
     have qt:=List.nodup_cons.mp nd
     obtain⟨c,q1,q2⟩:=ih qt.2 e1 e2
     refine⟨c,?_,q2⟩
     have ne:(y == a1)=false:=beq_eq_false_iff_ne.mpr fun z=>qt.1 (by subst z;exact List.mem_of_getElem? e1)
     rw [List.lookup_cons,ne]
     exact q1
theorem qG {α β:Type}{F:α→β→Prop}{cs:List α}{vs:List β} (h:Paired F cs vs):∀ a∈cs,∃ v∈vs,F a v:=by
 induction h with
 | nil=>intro a z;cases z
 | cons r t ih =>
   intro a z
   rcases List.mem_cons.mp z with rfl | z
   · exact⟨_,List.mem_cons_self,r⟩
   · obtain⟨v,q,f⟩:=ih a z
     exact⟨v,List.mem_cons_of_mem _ q,f⟩
theorem WT {cs:List (Str × Addr)} (nd:(cs.map (·.2)).Nodup) {x y:Str}{c:Addr} (h1:(x,c)∈cs) (h2:(y,c)∈cs):x=y:=by
 induction cs with
 | nil=>cases h1
 | cons a l ih =>
   have qt:=List.nodup_cons.mp nd
   rcases List.mem_cons.mp h1 with e1 | e1 <;> rcases List.mem_cons.mp h2 with e2 | e2
   · rw [← e1] at e2;cases e2;rfl
   · exact absurd (List.mem_map_of_mem (f:=(·.2)) e2) (by rw [← e1] at qt;exact qt.1)
   · exact absurd (List.mem_map_of_mem (f:=(·.2)) e1) (by rw [← e2] at qt;exact qt.1)
   · exact ih qt.2 e1 e2
theorem Py {cs:List (Str × Addr)} (nd:(cs.map (·.1)).Nodup) {x:Str}{c d:Addr} (h1:(x,c)∈cs) (h2:(x,d)∈cs):c=d:=by
 induction cs with
 | nil=>cases h1
 | cons a l ih =>
   have qt:=List.nodup_cons.mp nd
   rcases List.mem_cons.mp h1 with e1 | e1 <;> rcases List.mem_cons.mp h2 with e2 | e2
   · rw [← e1] at e2;cases e2;rfl
   · exact absurd (List.mem_map_of_mem (f:=(·.1)) e2) (by rw [← e1] at qt;exact qt.1)
   · exact absurd (List.mem_map_of_mem (f:=(·.1)) e1) (by rw [← e2] at qt;exact qt.1)
   · exact ih qt.2 e1 e2
def CG (CX:Ff) (P:Program) (w:World) (K:PySem.W.Frag) (mg:Str→Option Value) (base:Heap) (D:jO) (p:Addr) (cs:List (Str × Addr)) (cd:Value) (A:Around) (outer:List Env) (s:Shared) (H:Hp) (E:XK):Cx where
 prog:=P
 w:=w
 K:=K
 mg:=mg
 base:=base
 A:=A.deeper (PySem.W.envX D.qual D.scope s.heap.objs.size p cd cs)
 N:=D.x::D.ys
 s₀:=s
 H₀:=dels H (cs.map (·.2))
 env:=PySem.W.envX D.qual D.scope s.heap.objs.size p cd cs
 outer:=outer
 stack:=PySem.W.envX D.qual D.scope s.heap.objs.size p cd cs::outer
 ex:=[]
 calm:=true
 fn:=fun _=>false
 pn:=[]
 xe:=fun e s'=>wpAny (model P w) (A.deeper (PySem.W.envX D.qual D.scope s.heap.objs.size p cd cs)) (leaving (PySem.W.envX D.qual D.scope s.heap.objs.size p cd cs) e) (fun _ s''=>CX outer H s E e s'') (fun e' s''=>CX outer H s E e' s'') s'
theorem jO.Ok.lx {D:jO} (O:D.Ok):D.scope.names.lookup D.x=some .local:=by rw [O.names,List.lookup_cons,beq_self_eq_true]
theorem YJ:∀ {l:List Str}{y:Str}{k:NameKind},(l.map fun y=>(y,NameKind.free)).lookup y=some k→y∈l∧k=.free
 | [],_,_,h=>by cases h
 | a::l,y,k,h=>by
   rw [List.map_cons,List.lookup_cons] at h
   cases e:y == a with
   | true=>rw [e] at h;cases h;exact⟨by rw [eq_of_beq e];exact List.mem_cons_self,rfl⟩
   | false=>rw [e] at h;obtain⟨p,q⟩:=YJ h;exact⟨List.mem_cons_of_mem _ p,q⟩
theorem Te:∀ {l:List Str}{y:Str},y∈l→(l.map fun y=>(y,NameKind.free)).lookup y=some .free
 | [],_,h=>by cases h
 | a::l,y,h=>by
   rw [List.map_cons,List.lookup_cons]
   cases e:y == a with
   | true=>rfl
   | false =>
     rcases List.mem_cons.mp h with rfl | h
     · rw [beq_self_eq_true] at e;cases e
     · exact Te h
theorem jO.Ok.of {D:jO} (O:D.Ok) {x:Str}{k:NameKind} (h:D.scope.names.lookup x=some k):(x=D.x∧k=.local)∨(x∈D.ys∧k=.free):=by
 rw [O.names,List.lookup_cons] at h
 cases e:x == D.x with
 | true=>rw [e] at h;cases h;exact .inl ⟨eq_of_beq e,rfl⟩
 | false =>
   rw [e] at h
   obtain⟨p,q⟩:=YJ h
   exact .inr ⟨List.mem_reverse.mp p,q⟩
theorem jO.Ok.ly {D:jO} (O:D.Ok) {y:Str} (h:y∈D.ys):D.scope.names.lookup y=some .free:=by
 have ne:(y == D.x)=false:=beq_eq_false_iff_ne.mpr fun z=>(List.nodup_cons.mp O.nd).1 (by rw [← z];exact h)
 rw [O.names,List.lookup_cons,ne]
 exact Te (List.mem_reverse.mpr h)
theorem w6 {cs:List (Str × Addr)}{y:Str} (h:y∈cs.map (·.1)):∃ c,cs.lookup y=some c:=by
 induction cs with
 | nil=>cases h
 | cons a l ih =>
   obtain⟨a1,a2⟩:=a
   rw [List.lookup_cons]
   cases e:y == a1 with
   | true=>exact⟨a2,rfl⟩
   | false =>
     rcases List.mem_cons.mp h with rfl | h
     · rw [beq_self_eq_true] at e;cases e
     · exact ih h
theorem WW {CX:Ff}{P:Program}{w:World}{K:PySem.W.Frag}{mg:Str→Option Value}{base:Heap}{D:jO}{p:Addr}{cs:List (Str × Addr)}{cd:Value}{A:Around}{outer:List Env}{s:Shared}{h1:Heap}{tk:Tok}{H:Hp}{E:XK}{u:Value}{v:V}{vs:List V}{m:Str→Option Value}
   (O:D.Ok) (hd:A.handled=none) (e0:vo P w K mg base A outer s H) (L:Cz D H p cs vs) (r:RelV v u)
   (hn:h1.Ns s.heap.objs.size m) (hm:m D.x=some u) (hk:∀ b o,s.heap.get? b=some o→h1.get? b=some o) :
   Inv (CG CX P w K mg base D p cs cd A outer s H E) [] (some v::vs.map some) (dels H (cs.map (·.2))) { s with heap:=h1,toks:=tk }:=by
 have Wn:∀ b:Addr,b∉(CG CX P w K mg base D p cs cd A outer s H E).ex:=fun b z=>absurd (show b∈([]:List Addr) from z) (by simp)
 have cell:∀ {y:Str}{c:Addr}{v:V},Fz H c (qF c v)→∃ uc,RelV v uc∧s.heap.IsCell c (some uc):=fun {y c v} f=>by
   obtain⟨o,e⟩:=f
   exact (e0.hok _ _ e).2.1
 have fz:∀ c∈cs.map (·.2),∃ u,Fz H c u:=fun c hc=>by
   obtain⟨q,hq,rfl⟩:=List.mem_map.mp hc
   obtain⟨v,_,f⟩:=qG L.cells q hq
   exact⟨_,f⟩
 refine⟨⟨e0.mod,O.kind,rfl,rfl,Nat.le_refl _,fun y z c h1 h2=>WT L.nd (PySem.mem_of_lookup h1) (PySem.mem_of_lookup h2),fun y hy=>?_,fun y c h _=>(by cases (show false=true from h)),fun _=>hd,Around.frames_deeper e0.frames,.inr ⟨rfl,rfl⟩,fun b z=>absurd z (Wn b),fun b o e=>⟨(e0.bs b o e).1,lH (e0.bs b o e).2⟩,e0.Ql,fun b _ _=>Wn b,fun b z=>absurd z (Wn b),e0.qz,fun b hb=>lH (e0.Rm b hb)⟩,
   rfl,e0.bare,Un.kept hk,⟨m,hn,fun i y v' h1 h2 h3=>?_⟩,fun y c h=>?_,lH (e0.hok.fresh (Nat.le_refl _)),fun y c h=>su (List.mem_map_of_mem (f:=(·.2)) (PySem.mem_of_lookup h)),fun p hp=>absurd (show p∈([]:List (Addr × Obj)) from hp) (by simp),((e0.hok.dels fz).kept hk),?_⟩
 · rcases hy with hy | hy
   · rcases O.of hy with ⟨_,e⟩ | ⟨_,e⟩ <;> cases e
   · rcases O.of hy with ⟨_,e⟩ | ⟨e,_⟩
     · cases e
     · exact w6 (cs:=cs) (by rw [L.ys];exact e)
 · cases i with
   | zero =>
     cases h1;cases h2
     exact⟨u,r,.inl ⟨O.lx,hm⟩⟩
   | succ i =>
     have h1:D.ys[i]? = some y:=h1
     have h2:(vs.map some)[i]? = some (some v'):=h2
     rw [List.getElem?_map] at h2
     have h2':vs[i]? = some v':=by
       cases q:vs[i]? with
       | none=>rw [q] at h2;cases h2
       | some z=>rw [q] at h2;cases h2;rfl
     obtain⟨c,e1,e2⟩:=QK L.cells (by rw [L.ys];exact (List.nodup_cons.mp O.nd).2) (by rw [L.ys];exact h1) h2'
     obtain⟨uc,rc,hc⟩:=cell (y:=y) e2
     exact⟨uc,rc,.inr ⟨.inr (O.ly (List.mem_of_getElem? h1)),c,e1,IsCell.one hc (hk _)⟩⟩
 · obtain⟨v,_,f⟩:=qG L.cells _ (PySem.mem_of_lookup h)
   obtain⟨uc,rc,hc⟩:=cell (y:=y) f
   exact⟨_,IsCell.one hc (hk _)⟩
 · have e1:=congrArg List.length L.ys
   have e2:cs.length=vs.length:=Paired.length L.cells
   show (some v::vs.map some).length=(D.x::D.ys).length
   simp at e1 ⊢
   omega
end L2
namespace L2
open PySem PySem.Spec PyProof.Rows PySem.Calls
open PySem.W (tabObj CodeHd kla_obj kla_fn)
theorem WX {CX:Ff}{P:Program}{w:World}{K:PySem.W.Frag}{mg:Str→Option Value}{base:Heap}{D:jO}{k:Nat}{tb:TE} (O:D.Ok)
   (hbody:∀ (p:Addr) (cs:List (Str × Addr)) (cd:Value) (A:Around) (outer:List Env) (s:Shared) (H:Hp) (E:XK),fc k (A.deeper (PySem.W.envX D.qual D.scope s.heap.objs.size p cd cs))→PE (CG CX P w K mg base D p cs cd A outer s H E) D.body tb)
   {A:Around}{outer:List Env}{s:Shared}{H:Hp}{p:Addr}{cs:List (Str × Addr)}{u:Value}{x:V}{vs:List V}{Q:VK}{E:XK} (hr:fc (k+1) A) (e0:vo P w K mg base A outer s H)
   (L:Cz D H p cs vs) (r:RelV x u)
   (h:tb (some x::vs.map some) (dels H (cs.map (·.2))) (fun y H1=>Q y (back H (cs.map (·.2)) H1))) :
   codeAny (model P w) A (.call (.ref p) ⟨[u],[]⟩) (CR CX outer P w H s Q E) s:=by
 obtain⟨c',hp,oc,hcd⟩:=L.code
 obtain⟨⟨pm,ctv,ho⟩,_,_⟩:=e0.hok _ _ hp
 have hrec:s.heap.CodeRec (.ref c') D.qual:=(e0.hok _ _ hcd).2.1
 have lim:s.heap.NoLimit:=e0.mod.nolimit.keeps fun b o e=>(e0.bs b o e).1
 refine PySem.W.kla_callFunE hr.depth ho rfl O.co O.gen rfl hrec ?_
 rw [O.bind]
 refine wpAny_pure (wpAny_newFunctionEnv (fun y hy=>?_) (fun y hy=>?_) (fun h₁ hns hsb=>⟨lim.fresh _ hsb,?_⟩) O.kind)
 · have hy:y∈D.scope.names:=hy
   rw [O.names] at hy
   rcases List.mem_cons.mp hy with rfl | hy
   · intro z;cases z
   · obtain⟨q,_,rfl⟩:=List.mem_map.mp hy;intro z;cases z
 · rw [List.mem_singleton.mp hy];exact O.lx
 show codeAny _ _ (.expr D.body (PySem.W.envX D.qual D.scope s.heap.objs.size p (.ref c') cs)) _ _
 have hk₁:∀ b o,s.heap.get? b=some o→h₁.get? b=some o:=fun b o e=>hsb.extBut b o (Nat.ne_of_lt (Heap.lt_size e)) (Heap.get?_push_of_some _ e)
 have I:Inv (CG CX P w K mg base D p cs (.ref c') A outer s H E) [] (some x::vs.map some) (dels H (cs.map (·.2))) { s with heap:=h₁,toks:=s.toks+1 } :=
   WW O hr.hd e0 L r hns (by show List.lookup D.x [(D.x,u)]=_;rw [List.lookup_cons,beq_self_eq_true]) hk₁
 refine PySem.W.kla_codeExpr (wpAny_mono (hbody p cs (.ref c') A outer s H E (hr.deeper _) [] _ _ _ _ I h) (fun y s' hs=>?_) fun e s' hs=>hs)
 obtain⟨v',H',J,rv,q⟩:=hs
 have fz:∀ c∈cs.map (·.2),∃ o u,H c=some (.sI o u):=fun c hc=>by
   obtain⟨z,hz,rfl⟩:=List.mem_map.mp hc
   obtain⟨v,_,o,f⟩:=qG L.cells z hz
   exact⟨o,_,f⟩
 have un:=J.base
 have Fd:∀ b:Addr,b∉(CG CX P w K mg base D p cs (.ref c') A outer s H E).ex:=fun b z=>absurd (show b∈([]:List Addr) from z) (by simp)
 have inn:∀ {b:Addr}{u:HO},b∈cs.map (·.2)→(∀ o v,u≠.sI o v)→H b≠some u:=fun {b u} hb n e=>by
   obtain⟨o,v,z⟩:=fz b hb
   rw [e] at z;cases z;exact n _ _ rfl
 have YK:∀ b∈cs.map (·.2),∀ o,s.heap.get? b=some o→s'.heap.get? b=some o:=fun b hb o e=>un.keep b o e (su hb) (fun z=>by
   obtain⟨o',u',z'⟩:=fz b hb
   have:=e0.Rm b z;rw [z'] at this;cases this) (Fd b)
 refine⟨v',back H (cs.map (·.2)) H',J.os,J.bare,⟨fun b o e n hb hx=>un.keep b o e (lH n) hb (Fd b),fun b o e n hb hx=>un.slot b o e (lH n) hb (Fd b),fun b o e n hx=>?_,fun b o e hx=>un.there b o e (Fd b),fun b xs e=>?_,fun b o z e=>?_,fun b ps e=>?_⟩,fun b o e=>?_,rv,q⟩
 · by_cases hb:b∈cs.map (·.2)
   · rw [back_in hb];exact n
   · rw [jP hb];exact un.free b o e (lH n) (Fd b)
 · have hb:b∉cs.map (·.2):=fun hb=>inn hb (fun _ _ z=>by cases z) e
   rw [jP hb];exact un.tups b xs (by show dels H _ b=_;rw [xA hb];exact e)
 · by_cases hb:b∈cs.map (·.2)
   · rw [back_in hb];exact e
   · rw [jP hb];exact un.nR b o z (by show dels H _ b=_;rw [xA hb];exact e)
 · have hb:b∉cs.map (·.2):=fun hb=>inn hb (fun _ _ z=>by cases z) e
   rw [jP hb];exact un.oJ b ps (by show dels H _ b=_;rw [xA hb];exact e)
 · have own:∀ d,H' d=some (.own b)→back H (cs.map (·.2)) H' d=some (.own b):=fun d z=>by
     have hd:d∉cs.map (·.2):=fun hd=>by
       obtain⟨y,hy,e⟩:=List.mem_map.mp hd
       have hl:∃ y,cs.lookup y=some d:=by
         obtain⟨y1,y2⟩:=y
         have e:y2=d:=e
         subst e
         obtain⟨c,hc⟩:=w6 (cs:=cs) (List.mem_map_of_mem (f:=(·.1)) hy)
         have hc2:=PySem.mem_of_lookup hc
         have ndf:(cs.map (·.1)).Nodup:=by rw [L.ys];exact (List.nodup_cons.mp O.nd).2
         have:c=y2:=Py ndf hc2 hy
         subst this
         exact⟨y1,hc⟩
       obtain⟨y,hl⟩:=hl
       have:=J.jM y d hl
       rw [z] at this;cases this
     rw [jP hd];exact z
   have tup:∀ d xs,H' d=some (.tup xs)→back H (cs.map (·.2)) H' d=some (.tup xs):=fun d xs z=>by
     have hd:d∉cs.map (·.2):=fun hd=>by
       obtain⟨y,hy,e⟩:=List.mem_map.mp hd
       have hl:∃ y,cs.lookup y=some d:=by
         obtain⟨y1,y2⟩:=y
         have e:y2=d:=e
         subst e
         obtain⟨c,hc⟩:=w6 (cs:=cs) (List.mem_map_of_mem (f:=(·.1)) hy)
         have hc2:=PySem.mem_of_lookup hc
         have ndf:(cs.map (·.1)).Nodup:=by rw [L.ys];exact (List.nodup_cons.mp O.nd).2
         have:c=y2:=Py ndf hc2 hy
         subst this
         exact⟨y1,hc⟩
       obtain⟨y,hl⟩:=hl
       have:=J.jM y d hl
       rw [z] at this;cases this
     rw [jP hd];exact z
   by_cases hb:b∈cs.map (·.2)
   · rw [back_in hb] at e
     obtain⟨o',u',z⟩:=fz b hb
     rw [z] at e;cases e
     obtain⟨y,hy,ey⟩:=List.mem_map.mp hb
     obtain⟨v,_,ob,f⟩:=qG L.cells y hy
     rw [ey] at f
     rw [z] at f;cases f
     obtain⟨g1,g2⟩:=e0.hok b _ z
     obtain⟨⟨uc,rc,hcell⟩,_,_⟩:=g2
     exact⟨YK b hb _ g1,J6 rc (IsCell.one hcell fun o q=>YK b hb o q)⟩
   · rw [jP hb] at e
     exact (J.hok b o e).stay (fun _ _ _ q=>q) own tup
def aag (D:jO) (tb tf:TE) (t:TA):TE:=fun σ H Q=>tf σ H fun f H1=>∃ p,f=.ref p∧t σ H1 fun vs H2=>∃ x cs ws,vs=[x]∧Cz D H2 p cs ws ∧
 tb (some x::ws.map some) (dels H2 (cs.map (·.2))) fun y H3=>Q y (back H2 (cs.map (·.2)) H3)
theorem J7 {X:Cx}{CX:Ff}{D:jO}{k:Nat}{tb tf:TE}{t:TA}{x:Str}{p pos:Pos}{e:Expr}{E:XK} (O:D.Ok)
   (hbody:∀ (p:Addr) (cs:List (Str × Addr)) (cd:Value) (A:Around) (outer:List Env) (s:Shared) (H:Hp) (E:XK),fc k (A.deeper (PySem.W.envX D.qual D.scope s.heap.objs.size p cd cs))→PE (CG CX X.prog X.w X.K X.mg X.base D p cs cd A outer s H E) D.body tb)
   (hr:fc (k+1) X.A) (hx:Passes CX X E) (hf:PE X (.Name x p) tf) (ha:PA X [e] t) (he:starEach [e] X.env=(false,eval e X.env)::starEach [] X.env:=by rfl) :
   PE X (.Call (.Name x p) [e] [] pos) (aag D tb tf t):=by
 intro pins s σ H Q I h
 refine wpAny_Call_Name_kw (dO (hf pins s σ H _ I h) fun f s1 zq=>?_)
 obtain⟨fv,H1,I1,rf,q,ef,h1⟩:=zq
 subst ef
 obtain rfl:f=Value.ref q:=rf
 have h2:=ha pos pins s1 σ H1 _ I1 h1
 rw [he] at h2
 show wpAny _ _ (callWith pos (.ref q) [] (backTo pos (starEach [e] X.env)) []) _ _ _
 rw [he]
 refine PySem.W.callWith_of (P:=PySem.W.FnAt q) rfl PySem.W.keeps_F (evalArgs_plain (dO h2 fun us s2 zq=>?_))
 obtain⟨vs,H2,I2,rvs,y,cs,ws,ev,L,hb⟩:=zq
 subst ev
 obtain⟨c',hp,_⟩:=L.code
 obtain⟨⟨pm,ctv,ho⟩,_,_⟩:=I2.hok _ _ hp
 refine⟨⟨_,_,_,_,ho⟩,?_⟩
 cases rvs with
 | cons r rest =>
   cases rest
   refine wpAny_call (codeAny_mono (WX (E:=E) O hbody hr I2.env0 L r hb) fun r s' hq=>?_)
   cases r with
   | error e=>exact hx pins σ H2 s2 e s' I2 hq
   | ok fl =>
     cases fl with
     | ret u=>exact I2.after hq
     | next=>exact False.elim hq
     | brk=>exact False.elim hq
     | cont=>exact False.elim hq
def BMain (mg:Str→Option Value) (h:Heap):Prop:=∃ bm ob,mg "__builtins__" = some (.ref bm)∧bm≠builtinsNs∧h.get? bm=some ob∧ob.cls=.type "module"∧ob.dict=some builtinsNs∧ob.data=.plain
def ug (env:Env) (ys:List Str):List (Str × Addr):=ys.map fun y=>(y,(env.cells.lookup y).getD 0)
theorem CJ {f:(Str × NameKind)→List (Str × Addr)→Sem (ForInStep (List (Str × Addr)))}{c:Str→Addr}:∀ (l:List Str) (acc:List (Str × Addr)),(∀ y∈l,∀ acc,f (y,.free) acc=pure (.yield ((y,c y)::acc))) →
   forIn (l.map fun y=>(y,NameKind.free)) acc f=pure ((l.reverse.map fun y=>(y,c y))++acc)
 | [],acc,_=>by simp
 | y::l,acc,h=>by
   rw [List.map_cons,List.forIn_cons,h y List.mem_cons_self]
   simp only [pure_bind]
   rw [CJ l ((y,c y)::acc) fun z hz=>h z (List.mem_cons_of_mem _ hz)]
   simp
theorem Tf {D:jO} (O:D.Ok) {env:Env} (h:∀ y∈D.ys,∃ c,env.cells.lookup y=some c):closureFor D.scope env=pure (ug env D.ys):=by
 unfold closureFor
 simp only []
 rw [O.names,List.forIn_cons]
 simp only [show (NameKind.local == NameKind.free)=false from rfl,pure_bind,Bool.false_eq_true,if_false]
 rw [CJ (c:=fun y=>(env.cells.lookup y).getD 0) D.ys.reverse [] fun y hy acc=>?_]
 · simp [ug]
 · obtain⟨c,e⟩:=h y (List.mem_reverse.mp hy)
   have e':cellOf env y=pure c:=by unfold cellOf;rw [e]
   simp [e',e]
def Tg (P:Addr) (H H':Hp):Prop:=∀ b u,b≠P→H b=some u→H' b=some u
def eZ (q:Str) (pos:Pos):Array Value:=#[.str q 0,rawInt pos.line,rawInt pos.col]
theorem YL {P:Program}{w:World}{outer:List Env}{s:Shared}{h2:Heap}{H:Hp}{Q:VK}{D:jO}{Pt c' p:Addr}{cs:List (Str × Addr)}{pos:Pos}{pm ctv:Value}{tk:Tok}
   (hok:rT P w H s.heap) (hT:H Pt=some (.mW (eZ D.qual pos))) (hx:∀ b o,b≠Pt→s.heap.get? b=some o→h2.get? b=some o) (hP2:h2.get? Pt=some (tabObj #[rawInt pos.line,rawInt pos.col,.ref c']))
   (hrec:h2.CodeRec (.ref c') D.qual) (hp:h2.get? p=some (kla_obj "<lambda>" D.qual D.params D.body D.scope cs pm c' ctv))
   (fp:s.heap.objs.size≤p) (f':(H c'=none∧s.heap.objs.size≤c')∨H c'=some (.own Pt)) (bare:AllBare s.gens)
   (q:∀ H',H p=none→Tg Pt H H'→H' Pt=some (.mW (eZ D.qual pos ++ #[.ref c']))→H' p=some (MT D p cs c')→H' c'=some (.own Pt)→Q (.ref p) H') :
   CE outer P w H s Q (.ref p) { s with heap:=h2,toks:=tk }:=by
 obtain⟨c2,o',vs',t',e',ho',hd',hv'⟩:=id hrec
 cases e'
 have hPlt:Pt<s.heap.objs.size:=(hok _ _ hT).lt
 have np:H p=none:=hok.fresh fp
 have n2:p≠c':=by rintro rfl;rw [hp] at ho';cases ho';cases hd'
 have n4:Pt≠p:=Nat.ne_of_lt (Nat.lt_of_lt_of_le hPlt fp)
 have n6:Pt≠c':=by
   rintro rfl
   rcases f' with ⟨e,_⟩ | e
   · rw [hT] at e;cases e
   · rw [hT] at e;cases e
 generalize eH:upd (upd (upd H Pt (.mW (eZ D.qual pos ++ #[.ref c']))) c' (.own Pt)) p (MT D p cs c')=H'
 have g1:H' p=some (MT D p cs c'):=by rw [← eH];exact zB
 have g3:H' c'=some (.own Pt):=by rw [← eH,zI n2.symm];exact zB
 have g4:H' Pt=some (.mW (eZ D.qual pos ++ #[.ref c'])):=by rw [← eH,zI n4,zI n6];exact zB
 have g5:∀ b,b≠p→b≠c'→b≠Pt→H' b=H b:=fun b a1 a3 a4=>by rw [← eH,zI a1,zI a3,zI a4]
 have sb:Tg Pt H H':=fun b o hb e=>by
   have a1:b≠p:=zH e np
   by_cases a3:b=c'
   · subst a3
     rcases f' with ⟨z,_⟩ | z
     · rw [z] at e;cases e
     · rw [z] at e;cases e;exact g3
   · rw [g5 b a1 a3 hb];exact e
 have old:∀ b o,s.heap.get? b=some o→H b=none→b≠Pt∧H' b=none:=fun b o e n=>by
   have lt:=Heap.lt_size e
   have a4:b≠Pt:=by rintro rfl;rw [hT] at n;cases n
   refine⟨a4,?_⟩
   rw [g5 b (Nat.ne_of_lt (Nat.lt_of_lt_of_le lt fp)) ?_ a4]
   · exact n
   · rintro rfl
     rcases f' with ⟨_,z⟩ | z
     · exact absurd (Nat.lt_of_lt_of_le lt z) (Nat.lt_irrefl _)
     · rw [n] at z;cases z
 refine⟨.ref p,H',rfl,bare,⟨fun b o e n _ _=>hx b o (old b o e n).1 e,fun b o e n _ _=>⟨o.slots,hx b o (old b o e n).1 e⟩,fun b o e n _=>(old b o e n).2,fun b o e _=>?_,fun b xs e=>?_,fun b o z e=>?_,fun b qs e=>?_⟩,fun b o e=>?_,rfl,q H' np sb g4 g1 g3⟩
 · by_cases hb:b=Pt
   · exact⟨_,by rw [hb];exact hP2⟩
   · exact⟨o,hx b o hb e⟩
 · exact sb b _ (by rintro rfl;rw [hT] at e;cases e) e
 · exact sb b _ (by rintro rfl;rw [hT] at e;cases e) e
 · by_cases hb:b=Pt
   · subst hb
     rw [hT] at e;cases e
     exact⟨_,g4⟩
   · exact⟨#[],by rw [sb b _ hb e];simp⟩
 · by_cases a1:b=p
   · subst a1;rw [g1] at e;cases e;exact WR hp
   by_cases a3:b=c'
   · subst a3;rw [g3] at e;cases e;exact⟨_,ho'⟩
   by_cases a4:b=Pt
   · subst a4;rw [g4] at e;cases e
     exact⟨_,hP2,.inr ⟨D.qual,_,_,c',rfl,.inr rfl,g3,hrec⟩⟩
   rw [g5 b a1 a3 a4] at e
   refine (hok b o e).stay (fun d z hd ez=>hx d z ?_ ez) (fun d z=>sb d _ ?_ z) fun d xs z=>sb d _ ?_ z
   · rcases hd with rfl | hd
     · exact a4
     · rintro rfl;rw [hT] at hd;cases hd
   · rintro rfl;rw [hT] at z;cases z
   · rintro rfl;rw [hT] at z;cases z
def adR (D:jO) (env:Env) (Pt:Addr) (pos:Pos):TE:=fun _ H Q=>H Pt=some (.mW (eZ D.qual pos))∧∀ p c' H',H p=none→Tg Pt H H'→H' Pt=some (.mW (eZ D.qual pos ++ #[.ref c'])) →
 H' p=some (MT D p (ug env D.ys) c')→H' c'=some (.own Pt)→Q (.ref p) H'
theorem WY {X:Cx}{D:jO}{c Pt:Addr}{pos:Pos} (O:D.Ok) (hq:X.env.qual ++ "<lambda>" = D.qual) (hdef:defaultsOf D.params X.env=([],[])) (hcv:X.env.code=.ref c) (hch:PySem.W.codeHdIn X.K c Pt=true) (hB:BMain X.mg X.base)
   (hys:∀ y∈D.ys,X.env.kindOf y=some .cell):PE X (.Lambda D.params D.body D.scope pos) (adR D X.env Pt pos):=by
 intro pins s σ H Q I h
 obtain⟨hT,h⟩:=h
 have hclos:=Tf O (env:=X.env) fun y hy=>I.ok.has y (.inl (hys y hy))
 have hgs:s.heap.Ns mainGlobals X.mg:=I.mod.glob.keeps I.bk
 have C:CodeHd s.heap c Pt:=PySem.W.codeHd_of_K I.By hch
 have hsome:H Pt≠none:=by rw [hT];simp
 have hgP:mainGlobals≠Pt:=fun e=>by
   obtain⟨o,_,_,z,_⟩:=I.mod.glob
   exact hsome (e ▸ (I.bs _ _ z).2)
 have hBA:s.heap.BuiltinsAt X.mg Pt:=by
   obtain⟨bm,ob,a1,a2,a3,a4,a5,a6⟩:=hB
   refine⟨bm,ob,a1,a2,fun e=>?_,fun e=>hsome (e ▸ (I.bs _ _ a3).2),(I.bs _ _ a3).1,a4,a5,a6⟩
   obtain⟨o,_,_,z,d,_⟩:=I.mod.glob
   rw [e,z] at a3;cases a3;rw [d] at a6;cases a6
 refine PySem.W.kla_eval hdef ?_
 rw [hq]
 obtain⟨ts,hP,hd⟩:=I.hok _ _ hT
 rcases hd with ⟨rfl,_⟩ | ⟨q,ln,cl,c',rfl,e2,e3,hrec⟩
 · refine PySem.W.kla_makeFunction (mg:=X.mg) hclos I.ok.glob hgs hcv C hP trivial rfl hgP hBA fun c' ctv h' tk hx hge hlt hrec htb=>?_
   refine I.after (YL (pos:=pos) I.hok hT (fun b o hb e=>Heap.get?_push_of_some _ (hx b o hb e)) (Heap.get?_push_of_some _ (by simpa using htb)) (hrec.push _) (Heap.get?_push_size _ rfl) (Nat.le_trans hge (Nat.le_of_lt hlt)) (.inl ⟨I.hok.fresh hge,hge⟩) I.bare fun H' np sb q1 q2 q3=>?_)
   exact h _ c' H' np sb q1 q2 q3
 · have e2':q=D.qual∧ln=rawInt pos.line∧cl=rawInt pos.col:=by
     rcases e2 with e2 | e2
     · have e2:=congrArg Array.toList e2
       simp [eZ] at e2
       obtain⟨a,b,c⟩:=e2
       exact⟨a.symm,b.symm,c.symm⟩
     · have e2:=congrArg Array.toList e2
       simp [eZ] at e2
   obtain⟨rfl,rfl,rfl⟩:=e2'
   refine PySem.W.kla_makeFunctionHit (mg:=X.mg) (cv:=.ref c') hclos I.ok.glob hgs hcv C hP trivial (by simp [codeAmong,rawInt]) hBA fun ctv h' tk hx hsz=>?_
   have hk:∀ b o,s.heap.get? b=some o→(h'.push { cls:=.type "function",data:=.func (kla_fn "<lambda>" D.qual D.params D.body D.scope (ug X.env D.ys) ((X.mg "__name__").getD .none) (.ref c') ctv) }).get? b=some o:=fun b o e=>Heap.get?_push_of_some _ (hx b o e)
   refine I.after (YL (pos:=pos) I.hok hT (fun b o _ e=>hk b o e) (hk _ _ hP) ?_ (Heap.get?_push_size _ rfl) hsz (.inr e3) I.bare fun H' np sb q1 q2 q3=>?_)
   · obtain⟨c2,o2,vs2,t2,e2,g2,r2⟩:=hrec
     cases e2
     exact⟨c',o2,vs2,t2,rfl,hk _ _ g2,r2⟩
   · exact h _ c' H' np sb q1 q2 q3
end L2
namespace L2
open PySem PySem.Spec PyProof.Rows PySem.Calls
open PySem.W (tabObj CodeHd kla_obj kla_fn)
def ov (O H:Hp):Hp:=fun b=>match O b with | some o=>some o | none=>H b
def QL (O H H3:Hp):Hp:=fun b=>match O b with | some _=>H b | none=>H3 b
theorem Bv {O H:Hp}{b:Addr}{o:HO} (e:O b=some o):ov O H b=some o:=by unfold ov;rw [e]
theorem xI {O H:Hp}{b:Addr} (e:O b=none):ov O H b=H b:=by unfold ov;rw [e]
theorem lJ {O H H3:Hp}{b:Addr} (e:O b≠none):QL O H H3 b=H b:=by
 unfold QL
 cases q:O b with
 | none=>exact absurd q e
 | some o=>rfl
theorem xF {O H H3:Hp}{b:Addr} (e:O b=none):QL O H H3 b=H3 b:=by unfold QL;rw [e]
section
variable {X:Cx}{pins:List (Addr × Obj)}{σ:St}{H O:Hp}{s s':Shared}
theorem Inv.lend (I:Inv X pins σ H s) (fz:∀ b o,O b=some o→∃ ob u,o=.sI ob u∧s.heap.get? b=some ob∧∀ H',cD X.prog X.w H' s.heap b u)
   (own1:∀ b y,O b≠none→H b=some (.own y)→O y≠none) (res:∀ b o,O b≠none→H b=some o→∀ (H':Hp) (h':Heap),(∀ d ob,O d≠none→s.heap.get? d=some ob→h'.get? d=some ob)→(∀ d,O d≠none→H' d=H d)→cD X.prog X.w H' h' b o) (tup:∀ b xs,O b≠none→H b≠some (.tup xs))
   (bs:∀ b o,X.base.get? b=some o→O b=none) (fr:∀ b∈frs X.stack,O b=none) :
   vo X.prog X.w X.K X.mg X.base X.A X.stack s (ov O H)∧∀ (Q:VK) (u:Value) (s':Shared),CE X.stack X.prog X.w (ov O H) s (fun v H3=>(∀ b o,O b=some o→H3 b=some o)→Q v (QL O H H3)) u s'→CE X.stack X.prog X.w H s Q u s':=by
 have e0:=I.env0
 refine⟨⟨e0.frames,e0.mod,fun b o e=>⟨(e0.bs b o e).1,by rw [xI (bs b o e)];exact (e0.bs b o e).2⟩,e0.Ql,e0.qz,fun b hb=>by rw [xI (fr b hb)];exact e0.Rm b hb,fun b o e=>?_,e0.bare⟩,fun Q u s' h=>?_⟩
 · cases q:O b with
   | some o' =>
     rw [Bv q] at e;cases e
     obtain⟨ob,u,rfl,g,k⟩:=fz b _ q
     exact⟨g,k _⟩
   | none =>
     rw [xI q] at e
     refine (I.hok b o e).stay (fun _ _ _ z=>z) (fun d z=>?_) fun d xs z=>?_
     · cases q2:O d with
       | none=>rw [xI q2];exact z
       | some _=>exact absurd q (own1 d b (by rw [q2];simp) z)
     · cases q2:O d with
       | none=>rw [xI q2];exact z
       | some _=>exact absurd z (tup d xs (by rw [q2];simp))
 · obtain⟨v,H3,os,bare,un,hok,r,q⟩:=h
   have same:∀ b o,O b=some o→H3 b=some o∧∃ ob u,o=.sI ob u∧s.heap.get? b=some ob∧s'.heap.get? b=some ob:=fun b o e=>by
     obtain⟨ob,u,rfl,g,_⟩:=fz b _ e
     have z:=un.nR b ob u (Bv e)
     exact⟨z,ob,u,rfl,g,(hok b _ z).1⟩
   refine⟨v,QL O H H3,os,bare,⟨fun b o e n hb hx=>?_,fun b o e n hb hx=>?_,fun b o e n hx=>?_,un.there,fun b xs e=>?_,fun b o z e=>?_,fun b ps e=>?_⟩,fun b o e=>?_,r,q fun b o e=>(same b o e).1⟩
   · cases z:O b with
     | none=>exact un.keep b o e (by rw [xI z];exact n) hb hx
     | some o' =>
       obtain⟨_,ob,u,_,g1,g2⟩:=same b o' z
       rw [e] at g1;cases g1;exact g2
   · exact un.slot b o e (by rw [xI (fr b hb)];exact n) hb hx
   · cases z:O b with
     | none=>rw [xF z];exact un.free b o e (by rw [xI z];exact n) hx
     | some o'=>rw [lJ (by rw [z];simp)];exact n
   · cases z:O b with
     | none=>rw [xF z];exact un.tups b xs (by rw [xI z];exact e)
     | some o'=>exact absurd e (tup b xs (by rw [z];simp))
   · cases y:O b with
     | none=>rw [xF y];exact un.nR b o z (by rw [xI y];exact e)
     | some o'=>rw [lJ (by rw [y];simp)];exact e
   · cases y:O b with
     | none=>rw [xF y];exact un.oJ b ps (by rw [xI y];exact e)
     | some o'=>rw [lJ (by rw [y];simp)];exact⟨#[],by rw [e];simp⟩
   · cases y:O b with
     | none =>
       rw [xF y] at e
       refine (hok b o e).stay (fun _ _ _ z=>z) (fun d z=>?_) fun d xs z=>?_
       · cases q2:O d with
         | none=>rw [xF q2];exact z
         | some o2 =>
           obtain⟨g,ob,u,rfl,_⟩:=same d o2 q2
           rw [z] at g;cases g
       · cases q2:O d with
         | none=>rw [xF q2];exact z
         | some o2 =>
           obtain⟨g,ob,u,rfl,_⟩:=same d o2 q2
           rw [z] at g;cases g
     | some o' =>
       have hb:O b≠none:=by rw [y];simp
       rw [lJ hb] at e
       refine res b o hb e _ _ (fun d ob hd ez=>?_) fun d hd=>lJ hd
       cases q2:O d with
       | none=>exact absurd q2 hd
       | some o2 =>
         obtain⟨_,ob,u,_,g1,g2⟩:=same d o2 q2
         rw [ez] at g1;cases g1;exact g2
end
structure Th (H H2:Hp) (Pt c':Addr) (q:Str) (cs:List (Str × Addr)) (ws:List V):Prop where
 code:Fz H2 c' (J5 c' q)
 nd:(cs.map (·.2)).Nodup
 cells:Paired (fun (y:Str × Addr) v=>Fz H2 y.2 (qF y.2 v)) cs ws
 keep:∀ b o,H b=some o→b≠Pt→b≠c'→H2 b=some o
structure Rest (H H3 H4:Hp) (Pt c':Addr):Prop where
 old:∀ b o,H b=some o→(b=Pt∨b=c'∨H3 b=some o)→H4 b=some o
 new:∀ b o,H3 b=some o→(∀ ob u,o≠.sI ob u)→H4 b=some o
theorem Th.same {H H2 H3 H4:Hp}{Pt c':Addr}{q:Str}{cs:List (Str × Addr)}{ws:List V} (L:Th H H2 Pt c' q cs ws) (e:aB H2 H3) (r:Rest H H3 H4 Pt c'):aB H H4:=fun b o z=>by
 by_cases h1:b=Pt
 · exact r.old b o z (.inl h1)
 by_cases h2:b=c'
 · exact r.old b o z (.inr (.inl h2))
 exact r.old b o z (.inr (.inr (e b o (L.keep b o z h1 h2))))
def Ti (h:Heap):List (Addr × V)→Hp
 | [],_=>none
 | (c,v)::r,b=>if b=c then (h.get? c).map fun o=>.sI o (qF c v) else Ti h r b
def Pz (h:Heap) (Pt c':Addr) (q:Str) (cv:List (Addr × V)):Hp:=fun b=>if b=Pt then (h.get? Pt).map fun o=>.sI o (.own Pt) else if b=c' then (h.get? c').map fun o=>.sI o (J5 c' q) else Ti h cv b
theorem vK {h:Heap}:∀ {cv:List (Addr × V)}{b:Addr}{o:HO},Ti h cv b=some o→∃ v ob,(b,v)∈cv∧h.get? b=some ob∧o=.sI ob (qF b v)
 | [],_,_,e=>by cases e
 | (c,v)::r,b,o,e=>by
   unfold Ti at e
   by_cases hb:b=c
   · rw [if_pos hb] at e
     subst hb
     cases q:h.get? b with
     | none=>rw [q] at e;cases e
     | some ob=>rw [q] at e;cases e;exact⟨v,ob,List.mem_cons_self,rfl,rfl⟩
   · rw [if_neg hb] at e
     obtain⟨v',ob,m,g⟩:=vK e
     exact⟨v',ob,List.mem_cons_of_mem _ m,g⟩
theorem PB {h:Heap}:∀ {cs:List (Str × Addr)}{ws:List V},Paired (fun (y:Str × Addr) (v:V)=>∃ o,h.get? y.2=some o) cs ws→(cs.map (·.2)).Nodup→Paired (fun (y:Str × Addr) v=>Fz (Ti h ((cs.map (·.2)).zip ws)) y.2 (qF y.2 v)) cs ws
 | _,_,.nil,_=>.nil
 | _,_,@Paired.cons _ _ _ a b la lb r t,nd=>by
   have qt:=List.nodup_cons.mp nd
   obtain⟨o,ho⟩:=r
   refine .cons ⟨o,?_⟩ ?_
   · show (if a.2=a.2 then _ else _)=_
     rw [if_pos rfl,ho];rfl
   · have ih:=PB t qt.2
     have aux:∀ {l1:List (Str × Addr)}{l2:List V},(∀ y∈l1,y∈la)→Paired (fun (y:Str × Addr) v=>Fz (Ti h ((la.map (·.2)).zip lb)) y.2 (qF y.2 v)) l1 l2→Paired (fun (y:Str × Addr) v=>Fz (Ti h (((a::la).map (·.2)).zip (b::lb))) y.2 (qF y.2 v)) l1 l2:=by
       intro l1 l2 hs hp
       induction hp with
       | nil=>exact .nil
       | @cons y v l1 l2 r t ih2 =>
         refine .cons ?_ (ih2 fun z hz=>hs z (List.mem_cons_of_mem _ hz))
         obtain⟨o,ho⟩:=r
         refine⟨o,?_⟩
         show (if y.2=a.2 then _ else Ti h ((la.map (·.2)).zip lb) y.2)=_
         rw [if_neg fun z=>qt.1 (by show a.2∈la.map (·.2);rw [← z];exact List.mem_map_of_mem (f:=(·.2)) (hs y List.mem_cons_self))]
         exact ho
     exact aux (fun y hy=>hy) ih
section
variable {X:Cx}
theorem Inv.adS {pins:List (Addr × Obj)}{σ:St}{H:Hp}{s:Shared} (I:Inv X pins σ H s) {D:jO}{Pt c':Addr}{pos:Pos}{is:List Nat}{ws:List V} (hT:H Pt=some (.mW (eZ D.qual pos ++ #[.ref c'])))
   (hfn:∀ y∈D.ys,X.fn y=true∧X.env.kindOf y=some .cell) (nd:D.ys.Nodup) (hN:Paired (fun (y:Str) i=>X.N[i]? = some y) D.ys is) (hw:Paired (fun i w=>σ[i]? = some (some w)) is ws) :
   ∃ H2,Th H H2 Pt c' D.qual (ug X.env D.ys) ws∧vo X.prog X.w X.K X.mg X.base X.A X.stack s H2 ∧
     ∀ (Q:VK) (u:Value) (s':Shared),CE X.stack X.prog X.w H2 s (fun v H3=>∀ H4,Rest H H3 H4 Pt c'→Q v H4) u s'→CE X.stack X.prog X.w H s Q u s':=by
 obtain⟨ts,hP,hd⟩:=I.hok _ _ hT
 have hc':H c'=some (.own Pt)∧s.heap.CodeRec (.ref c') D.qual:=by
   rcases hd with ⟨_,q,ln,cl,e⟩ | ⟨q,ln,cl,c2,_,e2,e3,hrec⟩
   · have e:=congrArg Array.toList e;simp [eZ] at e
   · rcases e2 with e | e
     · have e:=congrArg Array.toList e;simp [eZ] at e
     · have e:=congrArg Array.toList e
       simp [eZ] at e
       obtain⟨rfl,_,_,rfl⟩:=e
       exact⟨e3,hrec⟩
 obtain⟨m,hn,hl⟩:=I.loc
 have lk:∀ {y:Str},y∈D.ys→∃ c,X.env.cells.lookup y=some c∧(X.env.cells.lookup y).getD 0=c:=fun {y} hy=>by
   obtain⟨c,e⟩:=I.ok.has y (.inl (hfn y hy).2)
   exact⟨c,e,by rw [e];rfl⟩
 have cells:Paired (fun (y:Str × Addr) (v:V)=>y.1∈D.ys∧X.env.cells.lookup y.1=some y.2∧∃ u,RelV v u∧s.heap.IsCell y.2 (some u)) (ug X.env D.ys) ws:=by
   have aux:∀ (l:List Str) (is:List Nat) (ws:List V),(∀ y∈l,y∈D.ys)→Paired (fun (y:Str) i=>X.N[i]? = some y) l is→Paired (fun i w=>σ[i]? = some (some w)) is ws →
       Paired (fun (y:Str × Addr) (v:V)=>y.1∈D.ys∧X.env.cells.lookup y.1=some y.2∧∃ u,RelV v u∧s.heap.IsCell y.2 (some u)) (ug X.env l) ws:=by
     intro l is ws hs a b
     induction a generalizing ws with
     | nil=>cases b;exact .nil
     | cons r t ih =>
       cases b with
       | cons r2 t2 =>
         have hy:=hs _ List.mem_cons_self
         obtain⟨c,e1,e2⟩:=lk hy
         refine .cons ⟨hy,by show _=some ((X.env.cells.lookup _).getD 0);rw [e2];exact e1,?_⟩ (ih _ (fun z hz=>hs z (List.mem_cons_of_mem _ hz)) t2)
         obtain⟨u,ru,l⟩:=hl _ _ _ r r2 (.inr (.inl (hfn _ hy).2))
         rcases l with ⟨z,_⟩ | ⟨_,c2,e3,e4⟩
         · rw [(hfn _ hy).2] at z;cases z
         · rw [e1] at e3;cases e3
           exact⟨u,ru,by show s.heap.IsCell ((X.env.cells.lookup _).getD 0) _;rw [e2];exact e4⟩
   exact aux D.ys is ws (fun _ h=>h) hN hw
 have ndc:((ug X.env D.ys).map (·.2)).Nodup:=by
   have aux:∀ l:List Str,l.Nodup→(∀ y∈l,y∈D.ys)→((ug X.env l).map (·.2)).Nodup:=by
     intro l
     induction l with
     | nil=>intro _ _;exact List.nodup_nil
     | cons a l ih =>
       intro nd hs
       have qt:=List.nodup_cons.mp nd
       refine List.nodup_cons.mpr ⟨fun z=>?_,ih qt.2 fun y hy=>hs y (List.mem_cons_of_mem _ hy)⟩
       obtain⟨p,hp,e⟩:=List.mem_map.mp z
       obtain⟨y,hy,rfl⟩:=List.mem_map.mp hp
       obtain⟨c,e1,e2⟩:=lk (hs a List.mem_cons_self)
       obtain⟨d,e3,e4⟩:=lk (hs y (List.mem_cons_of_mem _ hy))
       have e:(X.env.cells.lookup y).getD 0=(X.env.cells.lookup a).getD 0:=e
       rw [e2,e4] at e
       subst e
       exact qt.1 (by rw [I.ok.inj a y d e1 e3];exact hy)
   exact aux D.ys nd fun _ h=>h
 have cellOf:∀ {b:Addr}{v:V},(b,v)∈((ug X.env D.ys).map (·.2)).zip ws→H b=none∧X.s₀.heap.objs.size≤b∧∃ u,RelV v u∧s.heap.IsCell b (some u):=fun {b v} hm=>by
   have aux:∀ {cs:List (Str × Addr)}{ws:List V},Paired (fun (y:Str × Addr) (v:V)=>y.1∈D.ys∧X.env.cells.lookup y.1=some y.2∧∃ u,RelV v u∧s.heap.IsCell y.2 (some u)) cs ws→(b,v)∈(cs.map (·.2)).zip ws →
       H b=none∧X.s₀.heap.objs.size≤b∧∃ u,RelV v u∧s.heap.IsCell b (some u):=by
     intro cs ws hp
     induction hp with
     | nil=>intro z;cases z
     | cons r t ih =>
       intro z
       rcases List.mem_cons.mp z with z | z
       · cases z
         exact⟨I.jM _ _ r.2.1,I.ok.cab _ _ (hfn _ r.1).1 r.2.1,r.2.2⟩
       · exact ih z
   exact aux cells hm
 generalize hO:Pz s.heap Pt c' D.qual (((ug X.env D.ys).map (·.2)).zip ws)=O
 have nPc:c'≠Pt:=by rintro rfl;rw [hT] at hc';cases hc'.1
 have oP:O Pt=some (.sI { cls:=.none,data:=.fields ts } (.own Pt)):=by
   rw [← hO];unfold Pz;rw [if_pos rfl,hP];rfl
 obtain⟨oc,hoc⟩:∃ oc,s.heap.get? c'=some oc:=by
   obtain⟨c2,o,vs,t,e,g,_⟩:=hc'.2
   cases e;exact⟨o,g⟩
 have oC:O c'=some (.sI oc (J5 c' D.qual)):=by
   rw [← hO];unfold Pz;rw [if_neg nPc,if_pos rfl,hoc];rfl
 have oX:∀ {b},b≠Pt→b≠c'→O b=Ti s.heap (((ug X.env D.ys).map (·.2)).zip ws) b:=fun {b} h1 h2=>by
   rw [← hO];unfold Pz;rw [if_neg h1,if_neg h2]
 have cls:∀ {b},O b≠none→b=Pt∨b=c'∨(H b=none∧X.s₀.heap.objs.size≤b∧∃ v,s.heap.IsCell b v):=fun {b} h=>by
   by_cases h1:b=Pt
   · exact .inl h1
   by_cases h2:b=c'
   · exact .inr (.inl h2)
   rw [oX h1 h2] at h
   cases q:Ti s.heap (((ug X.env D.ys).map (·.2)).zip ws) b with
   | none=>exact absurd q h
   | some o =>
     obtain⟨v,ob,hm,_⟩:=vK q
     obtain⟨g1,g2,u,_,g3⟩:=cellOf hm
     exact .inr (.inr ⟨g1,g2,_,g3⟩)
 have PJ:∀ {b:Addr}{u:HO},H b=some u→O b≠none→b=Pt∨b=c':=fun {b u} e h=>by
   rcases cls h with h | h | ⟨h,_⟩
   · exact .inl h
   · exact .inr h
   · rw [e] at h;cases h
 have f0:∀ b o,O b=some o→∃ ob u,o=.sI ob u∧s.heap.get? b=some ob∧∀ H',cD X.prog X.w H' s.heap b u:=fun b o e=>by
   by_cases h1:b=Pt
   · subst h1;rw [oP] at e;cases e
     exact⟨_,_,rfl,hP,fun _=>⟨_,hP⟩⟩
   by_cases h2:b=c'
   · subst h2;rw [oC] at e;cases e
     exact⟨_,_,rfl,hoc,fun _=>Td hc'.2⟩
   rw [oX h1 h2] at e
   obtain⟨v,ob,hm,g,rfl⟩:=vK e
   obtain⟨_,_,u,ru,hcell⟩:=cellOf hm
   exact⟨_,_,rfl,g,fun _=>J6 ru hcell⟩
 have f1:∀ b y,O b≠none→H b=some (.own y)→O y≠none:=fun b y h1 h2=>by
   rcases PJ h2 h1 with rfl | rfl
   · rw [hT] at h2;cases h2
   · rw [hc'.1] at h2;cases h2;rw [oP];simp
 have f2:∀ b o,O b≠none→H b=some o→∀ (H':Hp) (h':Heap),(∀ d ob,O d≠none→s.heap.get? d=some ob→h'.get? d=some ob)→(∀ d,O d≠none→H' d=H d)→cD X.prog X.w H' h' b o:=fun b o h1 h2 H' h' k1 k2=>by
   have cP:O Pt≠none:=by rw [oP];simp
   have cC:O c'≠none:=by rw [oC];simp
   rcases PJ h2 h1 with rfl | rfl
   · rw [hT] at h2;cases h2
     refine⟨ts,k1 _ _ cP hP,?_⟩
     rcases hd with ⟨_,q,ln,cl,e⟩ | ⟨q,ln,cl,c2,z1,z2,z3,z4⟩
     · have e:=congrArg Array.toList e;simp [eZ] at e
     · rcases z2 with e | e
       · have e:=congrArg Array.toList e;simp [eZ] at e
       · have e':=congrArg Array.toList e
         simp [eZ] at e'
         obtain⟨rfl,_,_,rfl⟩:=e'
         obtain⟨c3,o3,vs,t,e3,e4,e5⟩:=z4
         cases e3
         exact .inr ⟨_,ln,cl,c',z1,.inr e,by rw [k2 _ cC];exact z3,c',o3,vs,t,rfl,k1 _ _ cC e4,e5⟩
   · rw [hc'.1] at h2;cases h2
     exact⟨_,k1 _ _ cC hoc⟩
 have f3:∀ b xs,O b≠none→H b≠some (.tup xs):=fun b xs h1 h2=>by
   rcases PJ h2 h1 with rfl | rfl
   · rw [hT] at h2;cases h2
   · rw [hc'.1] at h2;cases h2
 have f4:∀ b o,X.base.get? b=some o→O b=none:=fun b o e=>by
   cases z:O b with
   | none=>rfl
   | some o' =>
     have hb:=(I.bs b o e).2
     rcases cls (b:=b) (by rw [z];simp) with rfl | rfl | ⟨_,g,_⟩
     · rw [hT] at hb;cases hb
     · rw [hc'.1] at hb;cases hb
     · exact absurd (Nat.lt_of_lt_of_le (Heap.lt_size e) (Nat.le_trans I.ok.Ql g)) (Nat.lt_irrefl _)
 have f5:∀ b∈frs X.stack,O b=none:=fun b hb=>by
   cases z:O b with
   | none=>rfl
   | some o' =>
     have hb':=I.Hr b hb
     rcases cls (b:=b) (by rw [z];simp) with rfl | rfl | ⟨_,g,v,o,g2,g3⟩
     · rw [hT] at hb';cases hb'
     · rw [hc'.1] at hb';cases hb'
     · rcases I.ok.stk with e | ⟨e,e2⟩
       · rw [e] at hb
         obtain⟨o2,e3,_⟩:=(I.ok.qz.mem hb).2
         exact absurd (Nat.lt_of_lt_of_le (Heap.lt_size e3) g) (Nat.lt_irrefl _)
       · rw [e] at hb
         have hb:b∈(X.env::X.outer).filterMap (·.frame):=hb
         rw [List.filterMap_cons_some e2] at hb
         rcases List.mem_cons.mp hb with rfl | hb
         · obtain⟨o3,es,ep,e4,e5,_⟩:=hn
           rw [g2] at e4;cases e4
           rw [g3] at e5;cases e5
         · obtain⟨o2,e3,_⟩:=(I.ok.qz.mem hb).2
           exact absurd (Nat.lt_of_lt_of_le (Heap.lt_size e3) g) (Nat.lt_irrefl _)
 obtain⟨E0,back⟩:=I.lend f0 f1 f2 f3 f4 f5
 refine⟨ov O H,⟨⟨oc,Bv oC⟩,ndc,?_,fun b o e h1 h2=>?_⟩,E0,fun Q u s' h=>back Q u s' ?_⟩
 · have hh:=PB (h:=s.heap) (Paired.Wb cells fun y v q=>by
     obtain⟨_,_,u,_,o,g,_⟩:=q
     exact⟨o,g⟩) ndc
   have aux:∀ {l1:List (Str × Addr)}{l2:List V},Paired (fun (y:Str × Addr) (v:V)=>y.1∈D.ys∧X.env.cells.lookup y.1=some y.2∧∃ u,RelV v u∧s.heap.IsCell y.2 (some u)) l1 l2 →
       Paired (fun (y:Str × Addr) v=>Fz (Ti s.heap (((ug X.env D.ys).map (·.2)).zip ws)) y.2 (qF y.2 v)) l1 l2→Paired (fun (y:Str × Addr) v=>Fz (ov O H) y.2 (qF y.2 v)) l1 l2:=by
     intro l1 l2 a b
     induction a with
     | nil=>exact .nil
     | cons r t ih =>
       cases b with
       | cons r2 t2 =>
         refine .cons ?_ (ih t2)
         obtain⟨o,ho⟩:=r2
         have hf:=I.jM _ _ r.2.1
         refine⟨o,Bv ?_⟩
         rw [oX (by intro z;rw [z,hT] at hf;cases hf) (by intro z;rw [z,hc'.1] at hf;cases hf)]
         exact ho
   exact aux cells hh
 · cases q:O b with
   | none=>rw [xI q];exact e
   | some o' =>
     rcases PJ e (by rw [q];simp) with z | z
     · exact absurd z h1
     · exact absurd z h2
 · obtain⟨v,H3,os,bare,un,hok,r,q⟩:=h
   refine⟨v,H3,os,bare,un,hok,r,fun hs=>q _ ⟨fun b o e h=>?_,fun b o e h=>?_⟩⟩
   · cases z:O b with
     | some o'=>rw [lJ (by rw [z];simp)];exact e
     | none =>
       rw [xF z]
       rcases h with rfl | rfl | h
       · rw [oP] at z;cases z
       · rw [oC] at z;cases z
       · exact h
   · cases z:O b with
     | none=>rw [xF z];exact e
     | some o' =>
       obtain⟨ob,u,rfl⟩:∃ ob u,o'=.sI ob u:=by
         by_cases h1:b=Pt
         · subst h1;rw [oP] at z;cases z;exact⟨_,_,rfl⟩
         by_cases h2:b=c'
         · subst h2;rw [oC] at z;cases z;exact⟨_,_,rfl⟩
         rw [oX h1 h2] at z
         obtain⟨v,ob,_,_,rfl⟩:=vK z
         exact⟨_,_,rfl⟩
       have g:=hs b _ z
       rw [e] at g;cases g
       exact absurd rfl (h _ _)
end
section
variable {X:Cx}{k:Nat}{m:Str}{pos apos Tj:Pos}{e o:Expr}{es:List Expr}{ta:TE}{t:TA}
def aah (X:Cx) (k:Nat) (m:Str) (D:jO) (Pt:Addr) (Tj:Pos) (is:List Nat) (ta:TE) (t:TA):TE:=fun σ H Q=>ta σ H fun x H1=>∃ (a C dx:Addr) (fs:List (Str × V)) (M:dw X.prog X.w X.K X.mg X.base bR k C m),x=.ref a∧H1 a=some (.ins C dx fs)∧fs.lookup m=none ∧
 t σ H1 fun vs H2=>∃ c' ws,H2 Pt=some (.mW (eZ D.qual Tj ++ #[.ref c']))∧Paired (fun i w=>σ[i]? = some (some w)) is ws ∧
   ∀ H3,Th H2 H3 Pt c' D.qual (ug X.env D.ys) ws→M.sp (x::(vs++M.t8)) H3 (fun y H4=>∀ H5,Rest H2 H4 H5 Pt c'→Q y H5) E0
theorem J8 {D:jO}{Pt:Addr}{is:List Nat}{pl:Sem Bool} (hr:fc k X.A) (he:PE X o ta) (ha:PA X (e::es) t)
   (hfn:∀ y∈D.ys,X.fn y=true∧X.env.kindOf y=some .cell) (nd:D.ys.Nodup) (hN:Paired (fun (y:Str) i=>X.N[i]? = some y) D.ys is)
   (hst:starEach (e::es) X.env=(false,eval e X.env)::starEach es X.env:=by rfl) (hpl:(backTo pos (starEach es X.env)).any (·.1)=false:=by rfl)
   (ht:eval (.Call (.Attribute o m apos) (e::es) [] pos) X.env=(do
     let ov ← eval o X.env
     standAt apos.atName
     let (f,first) ← holding [ov] (getMethod ov m pl)
     callWith pos f first (backTo pos (starEach (e::es) X.env)) (backToKw pos (keywordEach [] X.env))):=by rfl) :
   PE X (.Call (.Attribute o m apos) (e::es) [] pos) (aah X k m D Pt Tj is ta t):=by
 intro pins s σ H Q I h
 refine PySem.W.methodCall_KW (pl:=pl) (dO (he pins s σ H _ I h) fun u s1 zq=>?_) ht
 obtain⟨x,H1,I1,rx,a,C,dx,fs,M,ex,ea,l,q⟩:=zq
 subst ex
 obtain rfl:u=Value.ref a:=rx
 refine t7 I1 ea M.c M.hm l ?_
 refine PySem.W.callWith_K (first:=[.ref a]) (h₀:=X.base) I.ok.mod.Yp M.hm.kp (dO (ha pos pins s1 σ H1 _ I1 q) fun us s2 zq=>?_) hst hpl
 obtain⟨vs,H2,I2,r,c',ws,hT,hw,q2⟩:=zq
 refine⟨I2.By,?_⟩
 obtain⟨H3,L,e0,back⟩:=I2.adS hT hfn nd hN hw
 have h3:=q2 H3 L
 have r2:Vals ((.ref a::vs)++M.t8) ((.ref a::us)++M.ds):=Vals.append (.cons rfl r) M.hd
 have hl:((.ref a::us)++M.ds).length=M.ps.length:=by rw [← r2.length];exact M.F.len _ _ _ _ h3
 refine wpAny_call (codeAny_mono (M.F.run X.A X.stack s2 H3 ⟨.ref a::us,[]⟩ _ _ _ _ hr e0 (M.hb s2 (.ref a::us) I2.By hl) r2 h3) fun r s' hq=>?_)
 cases r with
 | error e=>exact False.elim hq
 | ok fl =>
   cases fl with
   | ret u=>exact I2.after (back Q u s' hq)
   | next=>exact False.elim hq
   | brk=>exact False.elim hq
   | cont=>exact False.elim hq
end
theorem aV.weak {P:Program}{w:World}{K:PySem.W.Frag}{mg:Str→Option Value}{base:Heap}{CX:Ff}{k:Nat}{f:Addr}{fd:FuncData}{ps:List Str}{sp BV:Sp}{Pt:Addr}{q:Str}{pos:Pos} (F:aV P w K mg base CX k f fd ps sp)
   (h:∀ vs H Q E,BV vs H Q E→H Pt=some (.mW (eZ q pos))∧sp vs H (fun v H'=>(∃ c',H' Pt=some (.mW (eZ q pos ++ #[.ref c']))∧Q v (upd H' Pt (.mW (eZ q pos))))∨(H' Pt=some (.mW (eZ q pos))∧Q v H')) E):aV P w K mg base CX k f fd ps BV:=by
 refine⟨fun vs H Q E z=>F.len _ _ _ _ (h vs H Q E z).2,fun A outer s H args us vs Q E hr e0 hb hv hs=>?_⟩
 obtain⟨hT,h2⟩:=h vs H Q E hs
 refine codeAny_mono (F.run A outer s H args us vs _ E hr e0 hb hv h2) fun r s' z=>?_
 cases r with
 | error e=>exact z
 | ok fl =>
   cases fl with
   | next=>exact z
   | brk=>exact z
   | cont=>exact z
   | ret u =>
     obtain⟨v,H',os,bare,un,hok,rv,z⟩:=z
     rcases z with ⟨c',hT',z⟩ | ⟨_,z⟩
     · have ne:∀ {b:Addr}{o:HO},H' b=some o→(∀ ps,o≠.mW ps)→b≠Pt:=fun {b o} e n=>by rintro rfl;rw [hT'] at e;cases e;exact n _ rfl
       have neH:∀ {b:Addr}{o:HO},H b=some o→(∀ ps,o≠.mW ps)→b≠Pt:=fun {b o} e n=>by rintro rfl;rw [hT] at e;cases e;exact n _ rfl
       refine⟨v,upd H' Pt (.mW (eZ q pos)),os,bare,⟨un.keep,un.slot,fun b o e n hx=>?_,un.there,fun b xs e=>?_,fun b o y e=>?_,fun b qs e=>?_⟩,fun b o e=>?_,rv,z⟩
       · rw [zI (by rintro rfl;rw [hT] at n;cases n)];exact un.free b o e n hx
       · rw [zI (neH e fun _ z=>by cases z)];exact un.tups b xs e
       · rw [zI (neH e fun _ z=>by cases z)];exact un.nR b o y e
       · by_cases hb:b=Pt
         · subst hb
           rw [hT] at e;cases e
           exact⟨#[],by rw [zB];simp⟩
         · rw [zI hb];exact un.oJ b qs e
       · by_cases hb:b=Pt
         · subst hb
           rw [zB] at e;cases e
           obtain⟨ts,g,d⟩:=hok _ _ hT'
           refine⟨ts,g,?_⟩
           rcases d with ⟨_,q',ln,cl,e⟩ | ⟨q',ln,cl,c2,e1,e2,e3,e4⟩
           · have e:=congrArg Array.toList e;simp [eZ] at e
           · rcases e2 with e | e
             · have e:=congrArg Array.toList e;simp [eZ] at e
             · have e:=congrArg Array.toList e
               simp [eZ] at e
               obtain⟨rfl,rfl,rfl,rfl⟩:=e
               exact .inr ⟨_,_,_,_,e1,.inl rfl,by rw [zI (ne e3 fun _ z=>by cases z)];exact e3,e4⟩
         · rw [zI hb] at e
           refine (hok b o e).stay (fun _ _ _ z=>z) (fun d z=>?_) fun d xs z=>?_
           · rw [zI (ne z fun _ y=>by cases y)];exact z
           · rw [zI (ne z fun _ y=>by cases y)];exact z
     · exact⟨v,H',os,bare,un,hok,rv,z⟩
def Tn (Pt:Addr) (ps:Array Value) (H:Hp):Prop:=H Pt=some (.mW ps)∧∀ b,b≠Pt→H b=none∨∃ o xs,H b=some (.sI o (.lst xs))
theorem QM {P:Program}{w:World}{K:PySem.W.Frag}{mg mb:Str→Option Value}{CX:Ff}{k:Nat}{fa a:Addr}{fd:FuncData}{x:Str}{sp:Sp}{s₁:Shared}{vs:List Value}{ns:List Int}{c Pt:Addr}{ps:Array Value}
   (hps:∃ q ln cl,ps=#[.str q 0,ln,cl]) (KX:K.In s₁.heap) (hns:s₁.heap.Ns mainGlobals mg) (hb:s₁.heap.Ns builtinsNs mb) (hbb:∀ x:Str,x≠"__name__"→mb x=bootBuiltins x) (hlim:s₁.heap.NoLimit) (hg:s₁.gens=#[]) (hB:BMain mg s₁.heap)
   (hC:CodeHd s₁.heap c Pt) (hP:s₁.heap.get? Pt=some (tabObj #[])) (hKP:K.lookup Pt=none)
   (ha:s₁.heap.get? a=some { cls:=.type "list",data:=.seq vs.toArray }) (hi:IntsAre vs ns) (hl:ns.length≤sizeLine) (hr:fc k callerA)
   (F:∀ base:Heap,K.In base→base.Ns mainGlobals mg→BMain mg base→aV P w K mg base CX k fa fd [x] sp) (hbind:∀ (s:Shared) (u:Value),BindsTo s fd ⟨[u],[]⟩ [(x,u)])
   (hsp:∀ H:Hp,Tn Pt ps H→cB K H a (ns.map V.int)→sp [.ref a] H (fun v _=>v=.bl true) fun _ _ _=>False)
   (hCX:∀ H e s',CX [] H s₁ (fun _ _ _=>False) e s'→False) :
   codeAny (model P w) callerA (.call (.ref fa) ⟨[.ref a],[]⟩) (fun r s'=>r=.ok (.ret (.bool true))∧OldK s₁.heap s'.heap∧s'.os=s₁.os∧AllBare s'.gens) s₁:=by
 have rv:=GP hi
 have lenV:=hi.length
 have naP:a≠Pt:=by rintro rfl;rw [ha] at hP;cases hP
 have core:∀ H:Hp,Tn Pt ps H→cB K H a (ns.map V.int)→rT P w H s₁.heap→(∀ b,H b≠none→b=a∨b=Pt)→(H a≠none→K.lookup a=none) →
     codeAny (model P w) callerA (.call (.ref fa) ⟨[.ref a],[]⟩) (fun r s'=>r=.ok (.ret (.bool true))∧OldK s₁.heap s'.heap∧s'.os=s₁.os∧AllBare s'.gens) s₁:=by
   intro H hO hS hok hA hK
   have HS:∀ {b:Addr}{o:Obj},s₁.heap.get? b=some o→H b=none→(Fj s₁.heap H).get? b=some o:=fun e n=>Rj e n
   have noB:∀ {b:Addr}{o:Obj},s₁.heap.get? b=some o→(∀ its n,o.data≠.seq its n)→(∀ vs,o.data≠.fields vs)→H b=none:=fun {b o} e d1 d2=>by
     cases q:H b with
     | none=>rfl
     | some u =>
       rcases hA b (by rw [q];simp) with e' | e'
       · subst e';rw [ha] at e;cases e;exact absurd rfl (d1 _ _)
       · subst e';rw [hP] at e;cases e;exact absurd rfl (d2 _)
   have Wn:∀ {b:Addr}{o:Obj}{es:Array DictEntry}{ep:Nat},s₁.heap.get? b=some o→o.data=.dict es ep→H b=none:=fun {b o es ep} e d =>
     noB e (fun _ _ z=>by rw [d] at z;cases z) fun _ z=>by rw [d] at z;cases z
   have nsK:∀ {b:Addr}{m:Str→Option Value},s₁.heap.Ns b m→(Fj s₁.heap H).Ns b m:=fun {b m} ⟨o,es,ep,e,d,r⟩=>⟨o,es,ep,HS e (Wn e d),d,r⟩
   have hKb:K.In (Fj s₁.heap H):=fun b o e=>HS (KX b o e) (by
     cases q:H b with
     | none=>rfl
     | some u =>
       rcases hA b (by rw [q];simp) with e' | e'
       · subst e'
         rw [hK (by rw [q];simp)] at e;cases e
       · subst e'
         rw [hKP] at e;cases e)
   have hBb:BMain mg (Fj s₁.heap H):=by
     obtain⟨bm,ob,a1,a2,a3,a4,a5,a6⟩:=hB
     exact⟨bm,ob,a1,a2,HS a3 (noB a3 (fun _ _ z=>by rw [a6] at z;cases z) fun _ z=>by rw [a6] at z;cases z),a4,a5,a6⟩
   have hM:Mod K mg (Fj s₁.heap H):=⟨hKb,nsK hns,⟨mb,nsK hb,hbb⟩,let ⟨mc,h1,h2⟩:=hlim; ⟨mc,nsK h1,h2⟩⟩
   have e0:vo P w K mg (Fj s₁.heap H) callerA [] s₁ H:=⟨rfl,hM,fun b o e=>Wc e,Nat.le_of_eq (Qk _ _),trivial,fun b hb=>absurd (show b∈([]:List Addr) from hb) (by simp),hok,.of_eq hg⟩
   refine codeAny_mono ((F _ hKb (nsK hns) hBb).run callerA [] s₁ H ⟨[.ref a],[]⟩ [.ref a] [.ref a] _ _ hr e0 (hbind s₁ (.ref a)) (.cons rfl .nil) (hsp H hO hS)) fun r s' h=>?_
   cases r with
   | error e=>exact (hCX H e s' h).elim
   | ok fl =>
     cases fl with
     | next=>exact False.elim h
     | brk=>exact False.elim h
     | cont=>exact False.elim h
     | ret u =>
       obtain⟨v,H',os,bare,un,hok',r',q⟩:=h
       have q':v=.bl true:=q
       subst q'
       obtain rfl:u=Value.bool true:=r'
       obtain⟨more,hmore⟩:=un.oJ Pt _ hO.1
       obtain⟨ts',hP',_⟩:=hok' Pt _ hmore
       have keep:∀ b o,b≠Pt→s₁.heap.get? b=some o→s'.heap.get? b=some o:=fun b o hb e=>by
         cases q:H b with
         | none=>exact un.keep b o e q (by intro z;exact absurd (show b∈([]:List Addr) from z) (by simp)) (by simp)
         | some u =>
           rcases hO.2 b hb with z | ⟨ob,xs,z⟩
           · rw [q] at z;cases z
           · have z2:=un.nR b ob _ z
             obtain⟨e1,_⟩:=hok b _ z
             obtain⟨e2,_⟩:=hok' b _ z2
             rw [e] at e1;cases e1
             exact e2
       refine⟨rfl,⟨fun b o e=>?_,fun b o e=>?_⟩,os,bare⟩
       · by_cases hb:b=Pt
         · subst hb
           rw [hP] at e;cases e
           exact .inr (.inl ⟨(hC.tab hP).isCodeTable,rfl,#[],ts',rfl,by rw [Array.empty_append];exact hP'⟩)
         · exact .inl (keep b o hb e)
       · by_cases hb:b=Pt
         · subst hb;exact⟨_,hP'⟩
         · exact⟨o,keep b o hb e⟩
 cases hk:K.lookup a with
 | some o =>
   have e:=KX a o hk
   rw [ha] at e
   cases e
   refine core (fun b=>if b=Pt then some (.mW ps) else none) ⟨if_pos rfl,fun b hb=>.inl (if_neg hb)⟩ (.inr ⟨_,vs.toArray,_,hk,rfl,rfl,rfl,by rw [List.size_toArray,lenV];exact hl,by simpa using rv⟩) (fun b u z=>?_) (fun b z=>?_) fun z=>absurd (if_neg naP) z
   · by_cases hb:b=Pt
     · have z':=(if_pos hb).symm.trans z
       cases z'
       subst hb
       exact⟨#[],hP,.inl ⟨rfl,hps⟩⟩
     · have z':=(if_neg hb).symm.trans z
       cases z'
   · by_cases hb:b=Pt
     · exact .inr hb
     · exact absurd (if_neg hb) z
 | none =>
   refine core (fun b=>if b=Pt then some (.mW ps) else if b=a then some (.sI { cls:=.type "list",data:=.seq vs.toArray } (.lst (ns.map V.int))) else none) ⟨if_pos rfl,fun b hn=>?_⟩ (.inl (.inr ⟨{ cls:=.type "list",data:=.seq vs.toArray },(if_neg naP).trans (if_pos rfl)⟩)) (fun b u z=>?_) (fun b z=>?_) fun _=>hk
   · by_cases hb:b=a
     · exact .inr ⟨_,_,(if_neg hn).trans (if_pos hb)⟩
     · exact .inl ((if_neg hn).trans (if_neg hb))
   · by_cases hn:b=Pt
     · have z':=(if_pos hn).symm.trans z
       cases z'
       subst hn
       exact⟨#[],hP,.inl ⟨rfl,hps⟩⟩
     · by_cases hb:b=a
       · have z':=((if_neg hn).trans (if_pos hb)).symm.trans z
         cases z'
         subst hb
         exact⟨ha,by rw [List.length_map];exact hl,vs,_,rv,ha⟩
       · have z':=((if_neg hn).trans (if_neg hb)).symm.trans z
         cases z'
   · by_cases hn:b=Pt
     · exact .inr hn
     · by_cases hb:b=a
       · exact .inl hb
       · exact absurd ((if_neg hn).trans (if_neg hb)) z
theorem Tp {l:PySem.W.OpenLaw}{n k:Nat}{q:Program}{loose:List Str}{XP:(Str→Option Value)→Heap→Prop}{YP:World→Heap→Prop}{d:DefRec}{K:Params→PySem.W.Frag}{CX:World→Ff}{sp:Addr→World→Sp}{x:Str}{ps:Array Value}
   (hps:∃ q ln cl,ps=#[.str q 0,ln,cl])
   (hn:l.most=some n) (hn2:n≤sizeLine) (hdf:d.params.defaults=[]) (hr:fc k callerA)
   (hY:∀ (w:World) (h:Heap),YP w h→(K w.params).In h)
   (F:∀ (w:World) (mg:Str→Option Value) (fa:Addr) (h:Heap),YP w h→(K w.params).In h→h.Ns mainGlobals mg→mg d.name=some (.ref fa) →
     ∃ (c Pt:Addr) (fd:FuncData),PySem.W.codeHdIn (K w.params) c Pt=true∧h.get? Pt=some (tabObj #[])∧(K w.params).lookup Pt=none∧(∀ (s:Shared) (u:Value),BindsTo s fd ⟨[u],[]⟩ [(x,u)]) ∧
       (∀ base:Heap,(K w.params).In base→base.Ns mainGlobals mg→BMain mg base→aV l.prog w (K w.params) mg base (CX w) k fa fd [x] (sp Pt w)))
   (hsp:∀ (Pt:Addr) (w:World) (H:Hp) (a:Addr) (ns:List Int),ns.length≤n→(∀ n∈ns,Builtin.Int.intBits n≤1048576)→Tn Pt ps H→cB (K w.params) H a (ns.map V.int)→sp Pt w [.ref a] H (fun v _=>v=.bl true) fun _ _ _=>False)
   (hCX:∀ (w:World) (H:Hp) (s:Shared) (e:Value) (s':Shared),CX w [] H s (fun _ _ _=>False) e s'→False) :
   PySem.W.WalkO q loose XP YP l.row.toRowW d [] (fun f vs=>PySem.call f vs):=by
 refine Att.HJ hn hdf fun w s₀ s₁ mg mb fa o pm cd doc a vs ns G Y ho hd hcd hmg hobj hints hlen adT hg=>?_
 have KX:=hY w _ Y
 obtain⟨c,Pt,fd,h1,h2,h3,hb,hF⟩:=F w mg fa _ Y KX G.T.g hmg
 exact QM hps KX G.T.g G.T.b G.T.builtins G.T.nolimit hg G.T.bmain (PySem.W.codeHd_of_K KX h1) h2 h3 hobj hints (Nat.le_trans hlen hn2) hr hF hb (fun H hO hS=>hsp Pt w H a ns hlen adT hO hS) fun H e s'=>hCX w H s₁ e s'
section
variable {P:Program}{w:World}{K:PySem.W.Frag}{mg:Str→Option Value}{base:Heap}
theorem fV.okC {x qual:Str}{st:Stmt}{f:Addr}{fd:FuncData}{N ps:List Str}{k:Nat}{sp:Sp} (F:fV K x qual st f fd) (S:au N ps (aa st)) (len:∀ vs H Q E,sp vs H Q E→vs.length=ps.length)
   (hbody:∀ (cdv:Value) (A:Around) (outer:List Env) (s:Shared) (H:Hp) (vs:List V) (Q:VK) (E:XK),fd.code=cdv→fc k (A.deeper (envOfC qual (aa st) s.heap.objs.size f cdv))→sp vs H Q E →
     ∃ t,o6 (JH bR P w K mg base N qual (aa st) f cdv A outer s H E).Fd (aj st) t∧t { nx:=fun _ H'=>Q .non H',rt:=Q } (start N vs) H):aV P w K mg base bR (k+1) f fd ps sp:=by
 obtain⟨oc,od,kV,doc,pm,an,cdv,ct,osl,rfl,lk,hcd⟩:=F.ex
 refine RJ lk hcd S len fun A outer s H vs Q E hr hsp=>?_
 obtain⟨t,h,q⟩:=hbody cdv A outer s H vs Q E rfl hr hsp
 exact⟨t,h.Fd,q⟩
end
end L2
namespace L2
open PySem PySem.Spec PyProof.Rows PySem.Calls
section
variable {X:Cx}
theorem Tq (hc:X.calm=true):cQ X (.builtin "any") (fun xs H Q=>∃ (p:Addr) (bs:List Bool),xs=[.ref p]∧cB X.K H p (bs.map V.bl)∧Q (.bl (bs.any id)) H):=by
 intro pins s σ H xs us Q I r h
 obtain⟨p,bs,rfl,hq,q⟩:=h
 obtain⟨u,rfl,ru⟩:=vals1 r
 cases ru
 obtain⟨its,rv,pl,hz⟩:=I.list hq
 have hlt:p<s.heap.objs.size:=by obtain⟨o,n,e,_⟩:=pl;exact Heap.lt_size e
 refine call_any_walk (wpAny_pyIter_list pl.isList ?_)
 refine⟨_,_,_,_,_,_,fun i=>bs.getD i false,rfl,Walks.list (show X.A.in1.handled=none from I.ok.hd hc) s.heap.objs.size p (Nat.ne_of_lt hlt) its.toArray,⟨⟨_,Heap.get?_push_size _ rfl,rfl,rfl⟩,pl.isList.push _⟩,fun i v s1 Q1 E1 hP hQ=>?_,fun h' tk k=>?_⟩
 · have hP':its[i]? = some v:=by simpa using hP
   obtain⟨hi,_⟩:=List.getElem?_eq_some_iff.mp hP'
   have hl:=rv.length
   rw [List.length_map] at hl
   have hb:(bs.map V.bl)[i]? = some (V.bl (bs.getD i false)):=by
     rw [List.getElem?_map,List.getElem?_eq_getElem (by omega)]
     simp [List.getD,List.getElem?_eq_getElem (show i<bs.length by omega)]
   obtain⟨u,hu,ru⟩:=rv.get hb
   rw [hP'] at hu
   cases hu
   cases (show v=Value.bool _ from ru)
   exact wpAny_truthy_bool hQ
 · have e:(List.range its.toArray.size).any (fun i=>bs.getD i false)=bs.any id:=by
     have hl:=rv.length
     rw [List.length_map] at hl
     rw [List.size_toArray,← hl]
     have z:bs=(List.range bs.length).map fun i=>bs.getD i false:=by
       apply List.ext_getElem?
       intro i
       rw [List.getElem?_map]
       by_cases hi:i<bs.length
       · simp [List.getElem?_eq_getElem,hi,List.getD]
       · rw [List.getElem?_eq_none (Nat.not_lt.mp hi),List.getElem?_eq_none (by rw [List.length_range];exact Nat.not_lt.mp hi)];rfl
     conv=>rhs;rw [z]
     rw [List.any_map];rfl
   rw [e]
   refine⟨.bl (bs.any id),H,?_,rfl,q⟩
   have I0:Inv X pins σ H { s with heap:=s.heap.push { cls:=.type "list_iterator",data:=.fields #[.ref p,.int 0 0] } }:=I.kept (t':=s.toks) fun b o e=>Heap.get?_push_of_some _ e
   have fo:=I.JC (H':=H) (b:=s.heap.objs.size) (Nat.le_refl _) I.fresh
   obtain⟨f0,f1,f2,f3,f4,f5⟩:=fo
   exact I0.turned (t':=tk) (it:=s.heap.objs.size) (fun b o hb e=>k b o (by simpa using hb) e) f0 f1 f3 f4 f5
def aai (ta:TE):TE:=fun σ H Q=>ta σ H fun x H1=>(∃ c,x=.bl c∧Q (.bl (!c)) H1)∨(x=.non∧Q (.bl true) H1)
theorem W0 {a:Expr}{ta:TE}{pos:Pos} (ha:PE X a ta):PE X (.UnaryOp .Not a pos) (aai ta):=by
 intro pins s σ H Q I h
 refine UnaryOp_ (dO (ha pins s σ H _ I h) fun v s1 zq=>?_)
 obtain⟨x,H1,I1,r1,q1⟩:=zq
 rcases q1 with ⟨c,rfl,q1⟩ | ⟨rfl,q1⟩
 · cases r1
   exact not_of (wpAny_truthy_bool ⟨.bl (!c),H1,I1,rfl,q1⟩)
 · cases r1
   exact not_of (truthy_none ⟨.bl true,H1,I1,rfl,q1⟩)
end
end L2
namespace L2
open PySem PySem.Spec PyProof.Rows PySem.Calls
section
variable {X:Cx}
end
end L2
namespace L2
open PySem PySem.Spec
theorem qd {X:Cx}{s:Stmt}:PS X s (fun _ _ _=>False):=fun _ _ _ _ _ _ h=>h.elim
end L2
namespace L2
open PySem PySem.Spec PyProof.Rows PySem.Calls
section
variable {X:Cx}
end
end L2
namespace L2
open PySem PySem.Spec PyProof.Rows PySem.Calls
section
variable {X:Cx}
theorem Tt {e:Expr}:PE X e (fun _ _ _=>False):=fun _ _ _ _ _ _ h=>h.elim
end
end L2
namespace L2
open PySem PySem.Spec PyProof.Rows PySem.Calls
section
variable {X:Cx}{scope:Scope}{x y:Str}{M:List Str}{tg elt iter:Expr}{ifs:List Expr}{pos p1 p2 p3:Pos}{kk:Nat}{te:TE}{wi:TI}{tc:TT}{g:TG}
end
end L2
namespace L2
open PySem PySem.Spec PyProof.Rows PySem.Calls
end L2
namespace L2
open PySem PySem.Spec PyProof.Rows PySem.Calls
section
variable {X:Cx}{pins:List (Addr × Obj)}{σ:St}{H:Hp}{s:Shared}{h':Heap}
end
section
variable {X:Cx}{ea eb:Expr}{t:TA}{p pos tp:Pos}{elts:List Expr}{x1:Nat}
end
end L2
namespace L2
open PySem PySem.Spec PyProof.Rows PySem.Calls
end L2
namespace L2
open PySem PySem.Spec PyProof.Rows PySem.Calls
section
variable {X:Cx}{scope:Scope}{x:Str}{M:List Str}{pins:List (Addr × Obj)}{σ:St}{H₂:Hp}{s₂:Shared}{elt iter tg:Expr}{ifs:List Expr}{pos px:Pos}{te:TE}{wi:TI}{g:TG}{tc:TT}
def W2 (wi:TI) (g:TG) (tc:TT) (te:TE):TE:=fun σ H Q=>wi σ H fun J H1=>∃ (n:Nat) (W:Nat→List V→Hp→Prop),n≤sizeLine∧W 0 [] H1∧∀ i ys H,i≤n→ys.length≤i→W i ys H →
 (J.stop i H∧∀ p,H p=none→Q (.ref p) (upd H p (.lst ys)))∨(J.go i H∧i<n∧∀ x H',J.Ml i H x H'→∀ u,g x (u::σ) H' fun ρ H2=>(∃ u',ρ=u'::σ)∧tc ρ H2 fun c H3=>if c=true then te ρ H3 fun z H4=>W (i+1) (ys++[z]) H4 else W (i+1) ys H3)
theorem J9 (K:cM X scope x M) (hc:X.calm=true) (I:Inv X pins σ H₂ s₂) (hg:∀ (C:Addr) (s₂:Shared) (H₂:Hp) (fp:List Addr),PG (dW X scope C x M s₂ H₂ fp) tg g) (ht:∀ (C:Addr) (s₂:Shared) (H₂:Hp) (fp:List Addr),Fo (dW X scope C x M s₂ H₂ fp) ifs tc) (he:∀ (C:Addr) (s₂:Shared) (H₂:Hp) (fp:List Addr),PE (dW X scope C x M s₂ H₂ fp) elt te)
   {it:Addr}{fp:List Addr}{tn:Nat→Heap→Prop}{J:It} (T:Turn X.prog X.w X.K tg J fp it tn) (st:tn 0 s₂.heap) (hf:∀ b∈fp,kZ X pins H₂ b) {n:Nat} (hsz:n≤sizeLine) {W:Nat→List V→Hp→Prop}{F:List V→Hp→Prop}
   (w0:W 0 [] H₂) (turn:∀ i ys H,i≤n→ys.length≤i→W i ys H→(J.stop i H∧F ys H)∨(J.go i H∧i<n∧∀ x H',J.Ml i H x H'→∀ u,g x (u::σ) H' fun ρ H2=>(∃ u',ρ=u'::σ)∧tc ρ H2 fun c H3=>if c=true then te ρ H3 fun z H4=>W (i+1) (ys++[z]) H4 else W (i+1) ys H3))
   {E:Value→Shared→Prop}{RR:Value→Addr→Result→Shared→Prop}
   (hRR:∀ (D C:Addr) (s':Shared) (H':Hp) (ys:List V) (m:Str→Option Value),Inv X pins σ (upd H' D (.lst ys)) s'→H' D=none→kZ X pins (upd H' D (.lst ys)) C→s'.heap.Ns C m→F ys H'→RR (.ref D) C (.ok .next) s') :
   wpAny (model X.prog X.w) X.A (newList []) (fun acc s₃=>wpAny (model X.prog X.w) X.A (newFunctionEnv scope X.env.globals (gY X.env scope.names []) [] X.env.qual none .none (some X.env)) (fun cenv s₄ =>
     codeAny (model X.prog X.w) X.A (.compStart (.ListComp elt [⟨tg,iter,ifs,0⟩] scope pos) 0 (.ref it) acc { cenv with scope:=relabel scope X.env }) (RR acc cenv.locals) s₄) E s₃) E s₂:=by
 refine wpAny_newObj_type (wpAny_newFunctionEnv K.cell (by intro y hy;simp at hy) (fun h₁ hns₁ hsb₁=>?_) K.kind)
 dsimp only at hns₁ hsb₁ ⊢
 generalize hH2:s₂.heap.push { cls:=.type "list",dict:=none,data:=.seq ([]:List Value).toArray } = H2 at hns₁ hsb₁ ⊢
 have hC:H2.objs.size=s₂.heap.objs.size+1:=by rw [← hH2,Heap.size_push]
 have hDC:s₂.heap.objs.size≠H2.objs.size:=by rw [hC];exact Nat.ne_of_lt (Nat.lt_succ_self _)
 have below:∀ b,b<s₂.heap.objs.size→b≠H2.objs.size∧b≠s₂.heap.objs.size:=fun b hb=>⟨by rw [hC];exact Nat.ne_of_lt (Nat.lt_succ_of_lt hb),Nat.ne_of_lt hb⟩
 have hfl:∀ b∈fp,b<s₂.heap.objs.size:=fun b hb=>by obtain⟨o,e,_⟩:=T.obj _ _ st b hb;exact Heap.lt_size e
 have old:∀ b o,s₂.heap.get? b=some o→h₁.get? b=some o:=fun b o e=>hsb₁.extBut b o (below b (Heap.lt_size e)).1 (Heap.get?_push_of_some _ (hH2 ▸ Heap.get?_push_of_some _ e))
 have hacc:h₁.get? s₂.heap.objs.size=some { cls:=.type "list",data:=.seq ([]:List Value).toArray 0 }:=hsb₁.extBut _ _ hDC (Heap.get?_push_of_some _ (hH2 ▸ Heap.get?_push_size _ rfl))
 generalize hCC:H2.objs.size=C at *
 generalize tO:s₂.heap.objs.size=D at *
 have hCle:s₂.heap.objs.size≤C:=by rw [tO,hC];exact Nat.le_succ _
 have st₁:tn 0 h₁:=T.keep _ _ _ st fun b _ o e=>old b o e
 have I₁:=Ci (t:=s₂.toks+([]:List (Str × Value)).length) K I hf (fun b hb=>by rw [tO];exact hfl b hb) hCle hns₁ old
 generalize hX':dW X scope C x M s₂ H₂ fp=X' at I₁
 have eX:X'.prog=X.prog∧X'.w=X.w∧X'.K=X.K∧X'.calm=true∧X'.A=X.A∧X'.ex=fp∧X'.env=compEnvC scope (gY X.env scope.names []) C X.env∧X'.s₀=s₂∧X'.pn=[]:=by
   subst hX';exact⟨rfl,rfl,rfl,hc,rfl,rfl,rfl,rfl,rfl⟩
 obtain⟨eP,ew,eK,ec,eA,eex,Am,Yw,R4⟩:=eX
 have eL:X'.env.locals=C:=by rw [Am];rfl
 have cells':∀ y c,X'.env.cells.lookup y=some c→X.env.cells.lookup y=some c:=fun y c e=>by rw [Am] at e;exact cM.tM e
 have efs:X'.fs=frs X.stack:=by subst hX';rfl
 have vB:∀ b∈X'.fs,b=X.env.locals∨b∈X.fs:=fun b hb=>List.mem_cons.mp (I.wQ b (by rw [← efs];exact hb))
 have Ck:∀ {pn:List (Addr × Obj)}{H':Hp},(∀ p∈pn,p.1=D)→(∀ b∈fp,H' b=none)→∀ b∈fp,kZ X' pn H' b:=fun {pn H'} hp hn b hb=>by
   refine⟨hn b hb,?_,fun z=>?_,.inl (by rw [eex];exact hb),fun y c e=>(hf b hb).2.2.2.2.1 y c (cells' y c e),fun p hq=>?_⟩
   · rw [eL];exact (below b (hfl b hb)).1
   · rcases vB b z with q | q
     · exact (hf b hb).2.1 q
     · exact (hf b hb).2.2.1 q
   · rw [R4,List.nil_append] at hq
     rw [hp p hq];exact Ne.symm (below b (hfl b hb)).2
 have Dfp:D∉fp:=fun z=>Nat.lt_irrefl _ (hfl D z)
 have JZ:X.env.locals<D:=by have:=I.lt;rw [tO] at this;exact this
 have R6:∀ b∈X.fs,b<D:=fun b hb=>Nat.lt_of_not_le fun z=>I.Wf (a:=b) (by rw [tO];exact z) hb
 have J0:∀ {b:Addr}{pn:List (Addr × Obj)}{H':Hp},D≤b→b≠C→H' b=none→(∀ p∈pn,p.1≠b)→kZ X' pn H' b:=fun {b pn H'} hb hbC hn hp=>by
   refine⟨hn,by rw [eL];exact hbC,fun z=>?_,.inr (by rw [Yw,tO];exact hb),fun y c e=>?_,fun p hq=>?_⟩
   · rcases vB b z with q | q
     · rw [q] at hb;exact absurd (Nat.lt_of_lt_of_le JZ hb) (Nat.lt_irrefl _)
     · exact absurd (Nat.lt_of_lt_of_le (R6 b q) hb) (Nat.lt_irrefl _)
   · obtain⟨v,o,ho,_⟩:=I.cell y c (cells' y c e)
     have:=Heap.lt_size ho
     rw [tO] at this
     exact Nat.ne_of_lt (Nat.lt_of_lt_of_le this hb)
   · rw [R4,List.nil_append] at hq
     exact hp p hq
 have outer:∀ {σ':St}{H':Hp}{s':Shared}{pn:List (Addr × Obj)},Inv X' pn σ' H' s'→Inv X pins σ H' s':=fun {σ' H' s' pn} J'=>by
   subst hX'
   refine I.call' (ch:=fp) J'.os J'.base J'.hok J'.bare fun b hb=>?_
   obtain⟨f0,f1,f2,f3,f4,f5⟩:=hf b hb
   exact⟨f3,f1,f4,f5⟩
 have zp:∀ {b:Addr}{H':Hp},D≤b→H' b=none→kZ X pins H' b:=fun {b H'} hb hn=>by
   have q:=I.JC (H':=H') (b:=b) (by rw [tO];exact hb) hn
   exact q
 have loop:∀ s₃:Shared,s₃={ s₂ with heap:=h₁,toks:=s₂.toks+([]:List (Str × Value)).length } →
     codeAny (model X.prog X.w) X.A (.compLoop (.ListComp elt [⟨tg,iter,ifs,0⟩] scope pos) 0 (.ref it) (.ref D) (compEnvC scope (gY X.env scope.names []) C X.env)) (RR (.ref D) C) s₃:=by
   rintro s₃ rfl
   refine vJ (fun k s'=>∃ (i:Nat) (ys:List V) (its:List Value) (σ0:Option V) (H':Hp),i≤n∧k=n+1 - i∧ys.length≤i∧Inv X' [] (σ0::σ) H' s'∧tn i s'.heap∧(∀ b∈fp,H' b=none)∧H' D=none∧Vals ys its ∧
     (∃ c,s'.heap.get? D=some { cls:=.type "list",data:=.seq its.toArray c })∧W i ys H') ?_ (n+1) ⟨0,[],[],none,H₂,Nat.zero_le _,rfl,Nat.le_refl _,I₁,st₁,fun b hb=>(hf b hb).1,by rw [← tO];exact I.hok.fresh (Nat.le_refl _),.nil,⟨0,hacc⟩,w0⟩
   rintro k s' ⟨i,ys,its,σ0,H',hi,rfl,hyl,I',st',fr',hD',rv,⟨c,hobj⟩,w'⟩
   rcases turn i ys H' hi hyl w' with ⟨stop,fin⟩ | ⟨go,hlt,step⟩
   · have Cm:Inv X' [(D,{ cls:=.type "list",data:=.seq its.toArray c })] (σ0::σ) H' s':=I'.gm fun p hp=>by
       obtain rfl:p=(D,{ cls:=.type "list",data:=.seq its.toArray c }):=by simpa using hp
       refine⟨hobj,hD',?_,?_,fun v z=>nomatch z⟩
       · rw [eL];exact hDC
       · intro z
         rcases vB D z with q | q
         · rw [q] at JZ;exact Nat.lt_irrefl _ JZ
         · exact Nat.lt_irrefl _ (R6 D q)
     have q:=T.done X' eP ew eK ec i _ s' (σ0::σ) H' (notedBy (model X.prog X.w) X.A (compEnvC scope (gY X.env scope.names []) C X.env) fun e s'=>RR (.ref D) C (.error e) s') Cm (Ck (fun p hp=>by obtain rfl:p=(D,{ cls:=.type "list",data:=.seq its.toArray c }):=(by simpa using hp);rfl) fr') st' stop
     rw [eA] at q
     refine wpAny_mono q (fun r s4 ⟨hr,I4⟩=>?_) fun _ _ z=>z
     subst hr
     obtain⟨e4,n4,_⟩:=I4.pin (D,{ cls:=.type "list",data:=.seq its.toArray c }) (List.mem_append_right _ (by simp))
     have O4:=outer I4
     obtain⟨m4,Yx,_⟩:=I4.loc
     rw [eL] at Yx
     refine hRR D C s4 H' ys m4 (O4.track (zp (Nat.le_refl _) n4) (Nat.le_trans I.sz (by rw [tO];exact Nat.le_refl _)) ⟨Nat.le_trans hyl (Nat.le_trans hi hsz),its,c,rv,e4⟩) n4 (zp (by rw [hC];exact Nat.le_succ _) ?_) Yx fin
     rw [zI (Ne.symm hDC)]
     have:=I4.free
     rw [eL] at this
     exact this
   · have Cm:Inv X' [(D,{ cls:=.type "list",data:=.seq its.toArray c })] (σ0::σ) H' s':=I'.gm fun p hp=>by
       obtain rfl:p=(D,{ cls:=.type "list",data:=.seq its.toArray c }):=by simpa using hp
       refine⟨hobj,hD',?_,?_,fun v z=>nomatch z⟩
       · rw [eL];exact hDC
       · intro z
         rcases vB D z with q | q
         · rw [q] at JZ;exact Nat.lt_irrefl _ JZ
         · exact Nat.lt_irrefl _ (R6 D q)
     have pd:∀ p∈[(D,({ cls:=.type "list",data:=.seq its.toArray c }:Obj))],p.1=D:=fun p hp=>by obtain rfl:p=(D,{ cls:=.type "list",data:=.seq its.toArray c }):=(by simpa using hp);rfl
     have q:=T.item X' eP ew eK ec i _ s' (σ0::σ) H' (notedBy (model X.prog X.w) X.A (compEnvC scope (gY X.env scope.names []) C X.env) fun e s'=>RR (.ref D) C (.error e) s') Cm (Ck pd fr') st' go
     rw [eA] at q
     refine wpAny_mono q (fun r s4 ⟨u,hr,h4⟩=>?_) fun _ _ z=>z
     subst hr
     refine wpAny_mono h4 (fun _ s5 ⟨xv,H5,I5,r5,y5,Hu,ZL⟩=>?_) fun _ _ z=>z
     have ZM:=I5.pinned (Ck pd ZL) (T.obj _ _ Hu)
     rw [← Am]
     have g6:=step xv H5 y5 σ0
     have q6:=(hg C s₂ H₂ fp) (([(D,({ cls:=.type "list",data:=.seq its.toArray c }:Obj))])++o8 fp s5.heap) s5 (σ0::σ) H5 xv u _ (by rw [hX'];exact ZM) r5 g6
     rw [hX',eP,ew,eA] at q6
     refine wpAny_mono q6 (fun _ s6 ⟨ρ,H6,I6,⟨u',eρ⟩,t6⟩=>?_) (fun _ _ z=>by subst hX';exact (show False from z).elim)
     subst eρ
     have q7:=(ht C s₂ H₂ fp) _ s6 (u'::σ) H6 _ (by rw [hX'];exact I6) t6
     rw [hX',eP,ew,eA] at q7
     refine wpAny_mono q7 (fun ok s7 ⟨H7,I7,w7⟩=>?_) (fun _ _ z=>by subst hX';exact (show False from z).elim)
     have adQ:∀ {s8:Shared}{H8:Hp}{pn:List (Addr × Obj)},Inv X' (pn++(([(D,({ cls:=.type "list",data:=.seq its.toArray c }:Obj))])++o8 fp s5.heap)) (u'::σ) H8 s8→True:=fun _=>trivial
     cases ok with
     | false =>
       obtain⟨e7,n7,_⟩:=I7.pin (D,{ cls:=.type "list",data:=.seq its.toArray c }) (List.mem_append_right _ (List.mem_append_left _ (by simp)))
       refine⟨n+1 - (i+1),by omega,i+1,ys,its,u',H7,hlt,rfl,Nat.le_succ_of_le hyl,I7.gm (BJ:=[]) fun p hp=>absurd hp (by simp),?_,fun b hb=>?_,n7,rv,⟨c,e7⟩,w7⟩
       · refine T.keep _ _ _ Hu fun b hb o e=>?_
         exact (I7.pin (b,o) (List.mem_append_right _ (List.mem_append_right _ (yP hb e)))).1
       · obtain⟨o,e,d⟩:=T.obj _ _ Hu b hb
         exact (I7.pin (b,o) (List.mem_append_right _ (List.mem_append_right _ (yP hb e)))).2.1
     | true =>
       have q8:=(he C s₂ H₂ fp) _ s7 (u'::σ) H7 (fun z Pn=>W (i+1) (ys++[z]) Pn) (by rw [hX'];exact I7) w7
       rw [hX',eP,ew,eA] at q8
       refine wpAny_mono q8 (fun u8 s8 ⟨v8,H8,I8,r8,w8⟩=>?_) (fun _ _ z=>by subst hX';exact (show False from z).elim)
       obtain⟨e7,n7,_⟩:=I8.pin (D,{ cls:=.type "list",data:=.seq its.toArray c }) (List.mem_append_right _ (List.mem_append_left _ (by simp)))
       refine append_at (hsz:=by rw [List.size_toArray,← rv.length];exact Nat.le_trans hyl (Nat.le_trans hi hsz)) e7 fun h8 Yy g8=>?_
       have I9:Inv X' [] (u'::σ) H8 { s8 with heap:=h8,toks:=s8.toks }:=(I8.gm (BJ:=[]) fun p hp=>absurd hp (by simp)).turned (t':=s8.toks) (it:=D) (fun b o hb e=>(Yy.2 b hb).trans e) n7 (by rw [eL];exact hDC) (.inr (by rw [Yw,tO];exact Nat.le_refl _))
         (J0 (H':=H8) (pn:=[]) (Nat.le_refl _) hDC n7 (fun p hp=>absurd hp (by simp))).2.2.2.2.1 (fun p hp=>by rw [R4] at hp;exact absurd hp (by simp))
       refine⟨n+1 - (i+1),by omega,i+1,ys++[v8],its++[u8],u',H8,hlt,rfl,by rw [List.length_append,List.length_singleton];omega,I9,?_,fun b hb=>?_,n7,rv.append (.cons r8 .nil),⟨c+1,?_⟩,w8⟩
       · refine T.keep _ _ _ Hu fun b hb o e=>?_
         have e':=(I8.pin (b,o) (List.mem_append_right _ (List.mem_append_right _ (yP hb e)))).1
         exact (Yy.2 b (fun z=>Dfp (z ▸ hb))).trans e'
       · obtain⟨o,e,d⟩:=T.obj _ _ Hu b hb
         exact (I8.pin (b,o) (List.mem_append_right _ (List.mem_append_right _ (yP hb e)))).2.1
       · rw [g8,List.push_toArray]
 exact codeAny_compStart_list (loop _ rfl) (T.self X.A 0 _ _ _ st₁ (loop _ rfl))
structure Tu (J:It) (tc:TT) (te:TE) (σ:St) (H1:Hp) (Q:VK):Prop where
 ex:∃ (n:Nat) (W:Nat→List V→Hp→Prop),n≤sizeLine∧W 0 [] H1∧∀ i ys H,i≤n→ys.length≤i→W i ys H →
   (J.stop i H∧∀ p,H p=none→Q (.ref p) (upd H p (.lst ys)))∨(J.go i H∧i<n∧∀ z H',J.Ml i H z H'→tc (some z::σ) H' fun c H3=>if c=true then te (some z::σ) H3 fun z H4=>W (i+1) (ys++[z]) H4 else W (i+1) ys H3)
def aaj (wi:TI) (tc:TT) (te:TE):TE:=fun σ H Q=>wi σ H fun J H1=>Tu J tc te σ H1 Q
theorem W3 (K:cM X scope x M) {C:Addr}{s₂:Shared}{H₂:Hp}{fp:List Addr}:PG (dW X scope C x M s₂ H₂ fp) (.Name x px) (bO 0) :=
 yW K.nd rfl (.inl (lookup_relabel_local K.loc)) (.inr (lookup_relabel_local K.loc))
theorem Tv {X:Cx}{ifs:List Expr}{t u:TT} (h:Fo X ifs t) (e:t=u):Fo X ifs u:=e ▸ h
end
theorem M4 {K:PySem.W.Frag}{a:Addr}{xs:List V}{tc:TT}{te:TE}{σ:St}{H:Hp}{Q:VK} (hz:xs.length≤sizeLine) (W:Nat→List V→Hp→Prop) (h0:W 0 [] H) (hq:∀ i ys H,W i ys H→cB K H a xs)
   (hs:∀ i x ys H,xs[i]? = some x→ys.length≤i→W i ys H→tc (some x::σ) H fun c H3=>if c=true then te (some x::σ) H3 fun z H4=>W (i+1) (ys++[z]) H4 else W (i+1) ys H3)
   (hd:∀ ys H,W xs.length ys H→∀ p,H p=none→Q (.ref p) (upd H p (.lst ys))):Tu (Yq K a) tc te σ H Q:=by
 refine⟨xs.length,W,hz,h0,fun i ys H hi hl hw=>?_⟩
 have q:=hq i ys H hw
 by_cases hlt:i<xs.length
 · refine .inr ⟨⟨xs,xs[i],q,by simp [hlt]⟩,hlt,fun v H' y=>?_⟩
   obtain⟨e,y⟩:=y
   subst e
   exact hs i v ys _ (y xs q) hl hw
 · have e:i=xs.length:=by omega
   subst e
   exact .inl ⟨⟨xs,q,Nat.le_refl _⟩,hd ys H hw⟩
section
variable {X:Cx}{k:Nat}{m:Str}{pos apos:Pos}{o:Expr}{ta:TE}
end
end L2
namespace L2
open PySem PySem.Spec PyProof.Rows PySem.Calls
section
variable {X:Cx}{ea:Expr}{t:TA}{p pos tp:Pos}{elts:List Expr}{x1:Nat}
end
end L2
namespace L2
open PySem PySem.Spec PyProof.Rows PySem.Calls
section
variable {X:Cx}
theorem PK (hu:X.A.units+1<cLine):jc X (compareOp .In) (fun x y H Q=>∃ a o,y=.ref a∧jd H a x o∧Q (.bl o.isSome) H):=by
 intro pins s σ H x y v u Q I rx ry h
 obtain⟨a,o,rfl,g,q⟩:=h
 cases ry
 exact apz hu I g rx fun s' I'=>⟨.bl _,H,I',rfl,q⟩
theorem CK (hu:X.A.units+1<cLine):jc X (compareOp .NotIn) (fun x y H Q=>∃ a o,y=.ref a∧jd H a x o∧Q (.bl (!o.isSome)) H):=by
 intro pins s σ H x y v u Q I rx ry h
 obtain⟨a,o,rfl,g,q⟩:=h
 cases ry
 exact Wx hu I g rx fun s' I'=>⟨.bl _,H,I',rfl,q⟩
end
theorem W4:typeLookup (.type "list") "keys" = pure none:=by rw [typeLookup_type,builtinLookup_eq_fast];kernel_rfl
theorem Tw {prog:Program}{w:World}{A:Around}{E:Value→Shared→Prop}{s:Shared}{a:Addr}{xs:Array Value}{k:Nat}{sl:Array (Option Value)}{Q:Option Value→Shared→Prop}
   (hx:s.heap.get? a=some ⟨.type "list",none,.seq xs k,sl⟩) (hA:A.handled=none) (h:∀ h' tk e,Heap.NewExcOf s.heap h' e "AttributeError"→Q none { s with heap:=h',toks:=tk }) :
   wpAny (model prog w) A (getAttr? (.ref a) "keys") Q E s:=by
 obtain⟨hp,g,d,tk,os⟩:=s
 have ty:∀ j,(⟨hp,g,d,j,os⟩:Shared).TypeIs (.ref a) "list":=fun _=>⟨_,hx,rfl⟩
 have a1:=sub_AttributeError
 have a3:=PySem.F.slot_list_getattribute.lookup
 have a4:=PySem.F.slot_list_getattribute.bind (.ref a)
 have a5:=am_list_getattr_none
 unfold getAttr? getAttrBy? getAttrBy
 repeat (any_goals (first
   | assumption
   | exact ty _
   | ((with_reducible show wpAny _ _ (call (Value.builtin "list.__getattribute__") _ _) _ _ _)
      refine call_meets PySem.F.slot_list_getattribute (ty _) am_entry_list_getattribute (PySem.F.args_list_getattribute_2 _ _) (meets_getattribute_miss_list a xs k sl "keys" _ W4 (by decide) (by size_fits)) ⟨hx,hA,fun h' tk' e hx'=>?_⟩)
   | wp_step))
 obtain⟨t',u',he⟩:=hx'.there
 show wpAny _ _ (getattributeRaised _ _ _ _ _ _ _) _ _ _
 unfold getattributeRaised hookOrError
 repeat (any_goals (first | assumption | wp_step))
 exact h _ _ _ hx'.of
theorem Tz:entryFor table "dict.update.loop" = some Builtin.«dict.update.loop»:=entryFor_of_tree (by kernel_rfl)
theorem Fp {X:Cx} (hc:X.calm=true):cQ X (.type "dict") (fun xs H Q=>∃ p,xs=[.ref p]∧H p=some (.lst [])∧∀ d,H d=none→Q (.ref d) (upd H d (.dK []))):=by
 intro pins s σ H xs us Q I r h
 obtain⟨p,rfl,hp,q⟩:=h
 obtain⟨u,rfl,ru⟩:=r.one
 cases ru
 obtain⟨_,its,n,rv,ho⟩:=(show cD X.prog X.w H s.heap p (.lst []) from I.hok p _ hp)
 cases rv
 have big:=I.big
 have hand:X.A.handled=none:=I.ok.hd hc
 refine callType_codes (Q₁:=fun obj s₁=>obj=.ref s.heap.objs.size∧s₁={ s with heap:=s.heap.push { cls:=.type "dict",data:=.dict #[] } }) PySem.F.kt_called_dict (PySem.F.kt_typeCall_dict_1 _) PySem.F.entry_dict_init (kt_code_dict_new _ ⟨rfl,rfl⟩) ?_
 rintro obj s₁ ⟨rfl,rfl⟩
 have new:(s.heap.push { cls:=.type "dict",data:=.dict #[] }).DictOf (cz X.prog X.w) s.heap.objs.size []:=Heap.DictOf.new s.heap
 refine⟨new.typeIs,PySem.F.args_dict_init_2 _ _,?_⟩
 unfold Builtin.«dict.__init__» Builtin.Dict.selfAndRest
 refine wpAny_bind (wpAny_bind (wpAny_notOrdered_dict new.typeIs ?_))
 show wpAny _ _ (pure (s.heap.objs.size,[Value.ref p])) _ _ _
 refine wpAny_pure ?_
 show wpAny _ _ (Builtin.Dict.updateFrom "dict.__init__" _ (.ref p) [] .none) _ _ _
 unfold Builtin.Dict.updateFrom
 have ho1:=Heap.get?_push_of_some { cls:=.type "dict",data:=.dict #[] } ho
 refine wpAny_bind (wpAny_typeOf (T:="list") ⟨_,ho1,rfl⟩ ?_)
 rw [if_pos (by decide)]
 refine wpAny_bind (Tw ho1 (show X.A.in1.in1.handled=none from hand) fun h1 tk1 e1 x1=>?_)
 rw [if_pos (by rfl)]
 have ho2:=x1.keeps _ _ ho1
 have hl2:h1.IsList p #[]:=⟨_,ho2,rfl,n,rfl⟩
 refine wpAny_bind (wpAny_rule (wpAny_bind (wpAny_pyIter_list (s:={ s with heap:=h1,toks:=tk1 }) hl2 ?_)))
 refine wpAny_pure ⟨plainId_quiet (by symm) _,codeAny_builtin Tz ?_⟩
 have it:(h1.push { cls:=.type "list_iterator",data:=.fields #[.ref p,.int 0 0] }).IsListIter h1.objs.size p 0:=⟨_,Heap.get?_push_size _ rfl,rfl,rfl⟩
 have hl3:(h1.push { cls:=.type "list_iterator",data:=.fields #[.ref p,.int 0 0] }).IsList p #[]:=⟨_,Heap.get?_push_of_some _ ho2,rfl,n,rfl⟩
 unfold Builtin.«dict.update.loop»
 refine wpAny_bind (wpAny_pyNext_list_end (i:=0) (l:=p) (items:=#[]) (by first | exact hand | (rw [Around.under_plainId (by symm)];exact hand)) it hl3 (by rfl) fun h2 x2=>?_)
 show wpAny _ _ (Builtin.Dict.addKeywords s.heap.objs.size [] >>= _) _ _ _
 have kk:∀ b o,(s.heap.push { cls:=.type "dict",data:=.dict #[] }).get? b=some o→h2.get? b=some o:=fun b o e=>by
   have e1:=x1.keeps b o e
   exact x2 b o (Nat.ne_of_lt (Heap.lt_size e1)) (Heap.get?_push_of_some _ e1)
 exact wpAny_bind (wpAny_pure (wpAny_pure ⟨rfl,.ref s.heap.objs.size,_,I.laid (a:=s.heap.objs.size) (o:=.dK []) (h':=h2) (t':=tk1) (fun b o e=>kk b o (Heap.get?_push_of_some _ e)) (Nat.le_refl _) ⟨Nat.zero_le _,beq_eq_false_iff_ne.mpr (Ne.symm (Nat.ne_of_lt big)),[],.nil,new.keep kk⟩,rfl,q _ (I.hok.fresh (Nat.le_refl _))⟩))
end L2
namespace L2
open PySem PySem.Spec PySem.Calls PyProof.Rows
def M5 (h:Heap) (d:Addr) (es:Array DictEntry) (ep:Nat):Prop:=∃ o,h.get? d=some o∧o.ExactDict∧o.data=.dict es ep
theorem M5.keep {h h':Heap}{d:Addr}{es:Array DictEntry}{ep:Nat} (x:M5 h d es ep) (k:∀ o,h.get? d=some o→h'.get? d=some o):M5 h' d es ep:=let ⟨o,ho,r⟩:=x; ⟨o,k o ho,r⟩
theorem M5.lt {h:Heap}{d:Addr}{es:Array DictEntry}{ep:Nat} (x:M5 h d es ep):d<h.objs.size:=let ⟨_,ho,_⟩:=x;Heap.lt_size ho
section
variable {prog:Program}{w:World}{A:Around}{E:Value→Shared→Prop}{s:Shared}{d it:Addr}{es:Array DictEntry}{ep i:Nat}
theorem M5.ty (x:M5 s.heap d es ep):s.TypeIs (.ref d) "dict":=let ⟨o,ho,c,_⟩:=x; ⟨o,ho,c.1⟩
end
section
variable {X:Cx}{pos:Pos}
end
end L2
namespace L2
open PySem PySem.Spec PySem.Calls PySem.W PyProof.Rows
inductive M6 (n:Nat) {α:Type} (R:α→Prop):KasT α→Prop
 | ret {a:α}:R a→M6 n R (.ret a)
 | ask {i j:Nat}{k:Bool→KasT α}:i<n→j<n→(∀ b,M6 n R (k b))→M6 n R (.ask i j k)
theorem M6.bind {n:Nat}{α β:Type}{R:α→Prop}{S:β→Prop}{f:α→KasT β}{t:KasT α} (h:M6 n R t) (k:∀ a,R a→M6 n S (f a)):M6 n S (t.bind f):=by
 induction h with
 | ret r=>exact k _ r
 | ask hi hj _ ih=>exact .ask hi hj ih
def PlG (n:Nat) (p:Array Nat):Prop:=p.size=n∧∀ x∈p,x<n
theorem PlG.at {n:Nat}{p:Array Nat} (h:PlG n p) (hn:0<n) (k:Nat):p.getD k 0<n:=by
 rw [Array.getD_eq_getD_getElem?]
 by_cases hk:k<p.size
 · rw [Array.getElem?_eq_getElem hk];exact h.2 _ (Array.getElem_mem hk)
 · rw [Array.getElem?_eq_none (by omega)];exact hn
end L2
namespace L2
open PySem PySem.Spec PySem.Calls PySem.W PyProof.Rows
section
variable {prog:Program}{w:World}{A:Around}{E:Value→Shared→Prop}{s:Shared}
def aak (h:Heap) (v:Value):Prop:=∃ x o q t tq tt m,v=.ref x∧h.get? x=some o∧o.cls=.type "tuple"∧o.data=.seq #[.str q tq,.str t tt] m
theorem aak.keep {h h':Heap}{v:Value} (x:aak h v) (k:∀ b o,h.get? b=some o→o.cls=.type "tuple"→h'.get? b=some o):aak h' v:=let ⟨a,o,q,t,tq,tt,m,e,ho,hc,r⟩:=x; ⟨a,o,q,t,tq,tt,m,e,k _ _ ho hc,hc,r⟩
end
end L2
namespace L2
open PySem PySem.Spec PyProof.Rows PySem.Calls
section
variable {X:Cx}{scope:Scope}{x y z:Str}{M:List Str}{elt iter:Expr}{ifs:List Expr}{pos p1 p2 p3 p4:Pos}{kk:Nat}{te:TE}{wi:TI}{tc:TT}
structure alj (K:PySem.W.Frag) (J:It) (tc:TT) (te:TE) (σ:St) (H1:Hp) (Q:VK):Prop where
 ex:∃ (n:Nat) (W:Nat→List V→Hp→Prop),n≤sizeLine∧W 0 [] H1∧∀ i ys H,i≤n→ys.length≤i→W i ys H →
   (J.stop i H∧∀ p,H p=none→Q (.ref p) (upd H p (.lst ys)))∨(J.go i H∧i<n∧∀ z H',J.Ml i H z H'→∃ (p:Addr) (a b d:V),z=.ref p∧eY K H' p [a,b,d]∧tc (some a::some b::σ) H' fun c H3=>if c=true then te (some a::some b::σ) H3 fun z H4=>W (i+1) (ys++[z]) H4 else W (i+1) ys H3)
end
end L2
namespace L2
open PySem PySem.Spec PyProof.Rows PySem.Calls PySem.W PySem.Builtin PySem.Builtin.ObjectAttr PySem.Builtin.Getset_descriptor
structure apJ (K:PySem.W.Frag) (D:Addr) (f:Str):Prop where
 ga:findIn K (.ref D) "__getattribute__" = some (some (.builtin "BaseException.__getattribute__"))
 gk:findIn K (.ref D) "__getattr__" = some none
 hd:hasDictIn K D=true
 at_:findIn K (.ref D) f=some none
 mb:mroIn K D (.type "BaseException")=some true
section
variable {prog:Program}{w:World}{A:Around}{E:Value→Shared→Prop}{s:Shared}{K:PySem.W.Frag}{x D:Addr}{ox:Obj}{od:Obj}{name:Str}{v:Value}
def TF:List Value→Bool
 | .ref _::r=>TF r
 | l=>l == YD
structure apK (K:PySem.W.Frag) (D:Addr) (f:Str):Prop where
 sa:findIn K (.ref D) "__setattr__" = some (some (.builtin "object.__setattr__"))
 hd:hasDictIn K D=true
 at_:findIn K (.ref D) f=some none
 mr:(clsIn K D).any (fun cd=>TF cd.mro)=true
 mo:mroIn K D (.type "object")=some true
end
end L2
namespace L2
open PySem PySem.Spec PyProof.Rows PySem.Calls PySem.W PySem.Builtin PySem.Builtin.ObjectAttr PySem.Builtin.Getset_descriptor
def aal (K:PySem.W.Frag) (C:Addr):Bool:=match K.lookup C with
 | some ⟨.type "type",_,.cls cd,sl⟩=>(match cd.mro,sl.toList with
   | .ref C'::bm,[_,_,_,_,some (.builtin n),_]=>C' == C && n == "ValueError.__new__" && !cd.hasDel && tailIn K YD bm
   | _,_=>false)
 | _=>false
section
variable {prog:Program}{w:World}{A:Around}{E:Value→Shared→Prop}{s:Shared}{K:PySem.W.Frag}{C fI:Addr}
end
end L2
namespace L2
open PySem PySem.Spec PyProof.Rows PySem.Calls PySem.W PySem.Builtin PySem.Builtin.ObjectAttr PySem.Builtin.Getset_descriptor
structure axI (K:PySem.W.Frag) (C:Addr):Prop where
 rd:PySem.W.readsIn K C (.type "type")=true
 at_:PySem.W.findCls K (.ref C) (.type "type") "__init__" = some (.val (.builtin "ValueError.__init__"))
 sp:PySem.W.specialIn K (.ref C) "__getattribute__" = some (some (.builtin "type.__getattribute__"))
section
variable {X:Cx}{pos apos np:Pos}{e:Expr}{es:List Expr}{t:TA}{x:Str}{C0:Addr}
end
end L2
namespace L2
open PySem PySem.Spec PyProof.Rows PySem.Calls PySem.W PySem.Builtin
section
variable {X:Cx}{pins:List (Addr × Obj)}{σ:St}{H:Hp}{s:Shared}{o value:Expr}{f:Str}{pos pos':Pos}{ta tv:TE}
end
section
variable {P:Program}{w:World}{K:PySem.W.Frag}{mg:Str→Option Value}{base:Heap}{N:List Str}{qual:Str}{scope:Scope}{f:Addr}{cdv:Value}{A:Around}{outer:List Env}{s:Shared}{H:Hp}{E:XK}
end
end L2
namespace L2
open PySem PySem.Spec PyProof.Rows PySem.Calls PySem.W PySem.Builtin
section
variable {P:Program}{w:World}{K:PySem.W.Frag}{mg:Str→Option Value}{base:Heap}{N:List Str}{qual:Str}{scope:Scope}{f:Addr}{cdv:Value}{A:Around}{outer:List Env}{s:Shared}{H:Hp}{E:XK}
structure MkX (K:PySem.W.Frag) (C f:Addr):Prop where
 ex:aal K C=true
 init:PySem.W.findIn K (.ref C) "__init__" = some (some (.ref f))
 fn:PySem.W.isFn K (.ref f)=true
 kp:PySem.W.keepIn K (.ref C)=true
end
end L2
namespace L2
open PySem PySem.Spec PyProof.Rows PySem.Calls
section
variable {X:Cx}
variable {tg:Expr}
end
end L2
namespace L2
open PySem PySem.Spec PyProof.Rows PySem.Calls PySem.W
section
variable {K:PySem.W.Frag}{C A0 fI:Addr}{xo:Value}{xd:Option Addr}{cd cdA:ClassData}{sl:Array (Option Value)}
end
section
variable {X:Cx}{scope:Scope}{x:Str}{M:List Str}{pins:List (Addr × Obj)}{σ:St}{H₂:Hp}{s₂:Shared}{elt iter tg:Expr}{ifs:List Expr}{pos px:Pos}{te:TE}{wi:TI}{g:TG}{tc:TT}
theorem QQ {i:Nat}{y:Str}{spos py:Pos} (hN:X.N.Nodup) (hy:X.N[i]? = some y) (hl:Loc X.env.scope y) (K:cM X scope x M) (hc:X.calm=true) (hi:PI X tg iter wi) (hg:∀ (C:Addr) (s₂:Shared) (H₂:Hp) (fp:List Addr),PG (dW X scope C x M s₂ H₂ fp) tg g) (ht:∀ (C:Addr) (s₂:Shared) (H₂:Hp) (fp:List Addr),Fo (dW X scope C x M s₂ H₂ fp) ifs tc) (he:∀ (C:Addr) (s₂:Shared) (H₂:Hp) (fp:List Addr),PE (dW X scope C x M s₂ H₂ fp) elt te)
   (hsw:swapsWith (.ListComp elt [⟨tg,iter,ifs,0⟩] scope pos) (some (.Name y py)) spos.line X.env=pure true)
   (hs:∀ x,foldedSetIterable iter X.env x=pure x) (hf:X.fn y=true∨X.env.scope.names.lookup y=some .local) :
   PS X (.Assign [.Name y py] (.ListComp elt [⟨tg,iter,ifs,0⟩] scope pos) spos) (Qo (W2 wi g tc te) (bO i)):=by
 intro pins s σ H Dn I h
 rw [exec_Assign_Name_used _ _ _ _ hsw]
 refine wpAny_bind (wpAny_standAt (wpAny_bind ?_))
 show wpAny _ X.A (do let _ ← comprehension (.ListComp elt [⟨tg,iter,ifs,0⟩] scope pos) scope X.env _ (newList []) false (eval iter X.env) (some (assign (.Name y py) X.env))) _ _ s
 refine wpAny_bind (dO (wpAny_comprehension_free (use:=some (assign (.Name y py) X.env)) (Q:=fun _ s'=>SP X pins Dn .next s') rfl hs (K.closure I.ok) K.kind K.names (dO (hi pins s σ H _ I h) fun v s1 h1=>dO h1 fun itv s2 h2=>?_)) fun _ s' hq=>wpAny_pure (wpAny_pure hq))
 obtain⟨it,fp,tn,J,H2,e,I2,T,st2,f2,n,W,hsz,w0,turn⟩:=h2
 subst e
 refine J9 (RR:=fun acc C=>compPost (model X.prog X.w) X.A X.xe (some (assign (.Name y py) X.env)) (fun _ s'=>SP X pins Dn .next s') acc C) K hc I2 hg ht he T st2 f2 hsz (F:=fun ys H=>∀ p,H p=none→Dn.nx (σ.set i (some (.ref p))) (upd H p (.lst ys))) w0 turn ?_
 intro D C s' H' ys m I' n' fC ns fin
 refine wpAny_assign_Name (wR (v:=.ref D) I' hN hy hl rfl (fun s'' I'' ch=>?_) hf)
 obtain⟨f0,f1,f2,f3,f4,f5⟩:=fC
 obtain⟨a,sb1,ha⟩:=ch
 have hCa:C≠a:=by
   rcases ha with z | z
   · rw [z];exact f1
   · exact Ne.symm (f4 y a z)
 refine⟨m,ns.sameBut sb1 hCa,fun h' sb=>?_⟩
 exact⟨_,_,I''.turned (t':=s''.toks) (it:=C) (fun b o hb e=>(sb.2 b hb).trans e) f0 f1 f3 f4 f5,fin D n'⟩
theorem TJ {i:Nat}{y:Str}{spos py px:Pos} (hN:X.N.Nodup) (hy:X.N[i]? = some y) (hl:Loc X.env.scope y) (K:cM X scope x M) (hc:X.calm=true) (hi:PI X (.Name x px) iter wi) (ht:∀ (C:Addr) (s₂:Shared) (H₂:Hp) (fp:List Addr),Fo (dW X scope C x M s₂ H₂ fp) ifs tc) (he:∀ (C:Addr) (s₂:Shared) (H₂:Hp) (fp:List Addr),PE (dW X scope C x M s₂ H₂ fp) elt te)
   (hsw:swapsWith (.ListComp elt [⟨.Name x px,iter,ifs,0⟩] scope pos) (some (.Name y py)) spos.line X.env=pure true:=by rfl)
   (hs:∀ x,foldedSetIterable iter X.env x=pure x:=by intro _;rfl) (hf:X.fn y=true∨X.env.scope.names.lookup y=some .local:=by first | exact .inl rfl | exact .inr rfl | assumption) :
   PS X (.Assign [.Name y py] (.ListComp elt [⟨.Name x px,iter,ifs,0⟩] scope pos) spos) (Qo (aaj wi tc te) (bO i)):=by
 intro pins s σ H D I h
 have q:=QQ (pos:=pos) (spos:=spos) hN hy hl K hc (wi:=fun σ0 H0 R0=>∃ R,wi σ0 H0 R∧∀ J H1,R J H1→R0 J H1) (vD hi fun σ H R ⟨R1,a,b⟩=>⟨R1,a,b⟩) (fun C s₂ H₂ fp=>W3 (px:=px) K) ht he hsw hs hf pins s σ H D I
 refine q ⟨_,h,fun J H1 r=>?_⟩
 obtain⟨n,W,h1,h2,h3⟩:=r.ex
 refine⟨n,W,h1,h2,fun i ys H' hi hy hw=>?_⟩
 rcases h3 i ys H' hi hy hw with hq | ⟨g1,g2,g3⟩
 · exact .inl hq
 · exact .inr ⟨g1,g2,fun z H2 hz u=>⟨⟨_,rfl⟩,g3 z H2 hz⟩⟩
end
end L2
namespace L2
open PySem PySem.Spec PyProof.Rows PySem.Calls
section
variable {X:Cx}{o:Expr}{to:TE}{apos cpos tp:Pos}{elts:List Expr}{x1:Nat}
end
end L2
namespace L2
open PySem PySem.Spec PyProof.Rows PySem.Calls
section
variable {X:Cx}
end
theorem PS.Fd {X:Cx}{st:Stmt}{t:TS} (h:PS X.Fd st t):PS X st t:=fun pins s σ H D I hw =>
 wpAny_mono (h pins s σ H D (I.wish _) hw) (fun _ _ q=>q.jZ) fun _ _ z=>False.elim z
end L2
namespace L2
open PySem PySem.Spec PyProof.Rows PySem.Calls
section
variable {M:Model}{A:Around}{E:Value→Shared→Prop}{s:Shared}
end
section
variable {P:Program}{w:World}{K:PySem.W.Frag}{mg:Str→Option Value}{base:Heap}{N:List Str}{qual:Str}{scope:Scope}{f:Addr}{cdv:Value}{A:Around}{outer:List Env}{s:Shared}{H:Hp}{E:XK}
end
section
variable {P:Program}{w:World}{K:PySem.W.Frag}{mg:Str→Option Value}{base:Heap}
end
end L2
namespace L2
open PySem PySem.Spec PyProof.Rows PySem.Calls
end L2
namespace L2
open PySem PySem.Spec PyProof.Rows PySem.Calls
end L2
namespace L2
open PySem PySem.Spec PyProof.Rows PySem.Calls
section
variable {P:Program}{w:World}{H:Hp}{h:Heap}{a:Addr}{kvs:List (Option Key × V)}
end
def adU:Value→V
 | .none=>.non
 | .bool b=>.bl b
 | .int i _=>.int i
 | .str x _=>.str x
 | .bytes b _=>.O5 b
 | .float b _=>.flt b
 | .ref a=>.ref a
 | .type n=>.ty n
 | _=>.non
theorem RelV.back {x:V}{v:Value} (r:RelV x v):x=adU v:=by
 cases x with
 | non=>cases (show v=Value.none from r);rfl
 | bl b=>cases (show v=Value.bool b from r);rfl
 | int i=>obtain⟨t,rfl⟩:=r;rfl
 | str i=>obtain⟨t,rfl⟩:=r;rfl
 | O5 i=>obtain⟨t,rfl⟩:=r;rfl
 | flt i=>obtain⟨t,rfl⟩:=r;rfl
 | ref i=>cases (show v=Value.ref i from r);rfl
 | ty i=>cases (show v=Value.type i from r);rfl
section
variable {X:Cx}{pos:Pos}
end
section
variable {X:Cx}{o:Expr}{to:TE}{apos cpos tp:Pos}{elts:List Expr}{x1:Nat}
end
section
variable {P:Program}{w:World}{a:Addr}{o:Obj}{kvs:List (Option Key × V)}{σ:St}{H:Hp}
end
section
variable {X:Cx}{tg:Expr}
end
end L2
namespace L2
open PySem PySem.Spec PySem.Calls PySem.W PyProof.Rows
section
variable {X:Cx}{pos:Pos}{P:Program}{w:World}
end
section
variable {X:Cx}{CX:Ff}{k:Nat}{E:XK}{m:Str}{pos apos:Pos}{o:Expr}{ta:TE}{P:Program}{w:World}{K:PySem.W.Frag}{mg:Str→Option Value}{base:Heap}
end
end L2
namespace L2
open PySem PySem.Spec PyProof.Rows PySem.Calls
section
variable {X:Cx}{ea tg:Expr}{t:TA}{p pos:Pos}
end
section
variable {X:Cx}
end
end L2
namespace L2
open PySem PySem.Spec PyProof.Rows PySem.Calls
def QR (rows:List (List Key × V)):List (List Key × V):=rows.foldl (fun acc r=>putK acc r.1 r.2) []
end L2
namespace L2
open PySem PySem.Spec PyProof.Rows PySem.Calls
theorem Ka {α β:Type}{R R':α→β→Prop}{as:List α}{bs:List β} (h:Paired R as bs) (f:∀ a b,R a b→R' a b):Paired R' as bs:=by
 induction h with
 | nil=>exact .nil
 | cons r _ ih=>exact .cons (f _ _ r) ih
section
variable {X:Cx}{pins:List (Addr × Obj)}{σ:St}{A:Around}{E:Value→Shared→Prop}{a:Addr}
theorem M7 {H:Hp}{s:Shared}{b:Addr}{kvs:List (List Key × V)}{k:List Key}{v:V}{r:Value}{Q:Unit→Shared→Prop} (hu:A.units+1<cLine) (I:Inv X pins σ H s) (e:H a=some (.dT kvs)) (eb:H b=some (.tup (k.map kV))) (l:kvs.length<sizeLine) (rv:RelV v r)
   (h:∀ s',Inv X pins σ (upd H a (.dT (putK kvs k v))) s'→Q () s'):wpAny (model X.prog X.w) A (dictSet a (.ref b) r) Q E s:=by
 obtain⟨z,hd,xs,rel,dd⟩:=Pj I.hok e
 have hz:xs.length≤sizeLine:=by rw [← Paired.length rel];exact z
 have hl:(putK kvs k v).length≤sizeLine:=by have:=xD kvs k v;omega
 refine wpAny_dictSet_heap (hsz:=hz) (show A.units<cLine by omega) (qC I.hok eb) dd fun h' dd' hs=>h _ ?_
 obtain⟨q,es,ep,hq,h2,h3,h4,_,h5⟩:=dd'
 refine HD I (by rw [e];exact True.intro) hs ⟨q,hq⟩ ⟨hl,hd,_,(rel.put k eb rv).keeps fun c ys ec=>?_,q,es,ep,hq,h2,h3,h4,h5⟩
 rw [zI (yJ ec e (fun z=>nomatch z))]
 exact ec
theorem aam (hu:A.units+1<cLine):∀ {ps:List (V × V)}{ws:List (Value × Value)} (rel:VV ps ws) {rows:List (List Key × V)}{H:Hp}{s:Shared}{kvs:List (List Key × V)}{Q:PUnit→Shared→Prop},Paired (fun (x:V × V) (r:List Key × V)=>x.2=r.2∧∃ b,x.1=.ref b∧H b=some (.tup (r.1.map kV))) ps rows →
   Inv X pins σ H s→H a=some (.dT kvs)→kvs.length+rows.length≤1000→(∀ s',Inv X pins σ (upd H a (.dT (rows.foldl (fun acc r=>putK acc r.1 r.2) kvs))) s'→Q PUnit.unit s')→wpAny (model X.prog X.w) A (storeAll a ws) Q E s:=by
 intro ps ws rel
 induction rel with
 | nil =>
   intro rows H s kvs Q hp I e hl h
   cases hp
   unfold storeAll
   rw [List.forIn_nil]
   refine wpAny_pure (h s ?_)
   have:upd H a (.dT kvs)=H:=by
     funext b
     by_cases eb:b=a
     · subst eb;rw [zB,e]
     · rw [zI eb]
   show Inv X pins σ (upd H a (.dT kvs)) s
   rw [this];exact I
 | @cons x w' ps' ws' rx rel ih =>
   intro rows H s kvs Q hp I e hl h
   cases hp with
   | @cons _ r _ axJ h1 h2 =>
     obtain⟨e2,b,e1,hb⟩:=h1
     obtain⟨x1,x2⟩:=x
     obtain⟨w1,w2⟩:=w'
     dsimp only at e1 e2 rx
     subst e1 e2
     cases (show w1=Value.ref b from rx.1)
     rw [List.length_cons] at hl
     unfold storeAll
     rw [List.forIn_cons]
     refine wpAny_bind (wpAny_bind (M7 hu I e hb (by rw [sizeLine_eq];omega) rx.2 fun s1 I1=>wpAny_pure ?_))
     refine ih (Ka h2 fun y r' z=>?_) I1 zB (by have:=xD kvs r.1 r.2;omega) fun s' I'=>h s' ?_
     · obtain⟨z1,c,z2,z3⟩:=z
       exact⟨z1,c,z2,by rw [zI (yJ z3 e (fun z=>nomatch z))];exact z3⟩
     · rw [yD] at I'
       exact I'
end
def aan (Wz:List (TE × TE)):TE:=fun σ H Q=>∀ p,H p=none→Mz Wz σ (upd H p (.dT [])) fun ps H2=>H2 p=some (.dT [])∧∃ rows:List (List Key × V),Paired (fun (x:V × V) (r:List Key × V)=>x.2=r.2∧∃ b,x.1=.ref b∧H2 b=some (.tup (r.1.map kV))) ps rows∧rows.length≤15∧Q (.ref p) (upd H2 p (.dT (QR rows)))
theorem CN {X:Cx}{pos:Pos}{keys:List (Option Expr)}{values:List Expr}{Wz:List (TE × TE)} (hu:X.A.units+1<cLine) (h:zm X pos keys values Wz) (hall:keys.all (·.isSome)=true) (hl:keys.length=values.length) (h0:keys≠[])
   (h15:keys.length≤15):PE X (.Dict keys values pos) (aan Wz):=by
 intro pins s σ H Q I q
 have hn:=I.hok.fresh (Nat.le_refl s.heap.objs.size)
 have I1:=I.laid (a:=s.heap.objs.size) (o:=.dT []) (h':=s.heap.push { cls:=.type "dict",data:=.dict #[] }) (t':=s.toks) (fun _ _ q=>Heap.get?_push_of_some _ q) (Nat.le_refl _) (RZ s.heap I.big)
 refine wpAny_Dict_any hall hl h0 h15 (dO (h pins _ σ _ _ I1 (q _ hn)) fun ws s2 zq=>?_)
 obtain⟨ps,H2,I2,rel,e,rows,hp,lk,q2⟩:=zq
 exact aam hu rel hp I2 e (by rw [List.length_nil];omega) fun s' I'=>⟨.ref s.heap.objs.size,_,I',rfl,q2⟩
end L2
namespace L2
open PySem PySem.Spec PyProof.Rows PySem.Calls
theorem M8 {α:Type} (a:Array α) (p:α→Bool) (h:a.size≤1):¬ (a.filter p).size > 1:=by
 have:=Array.size_filter_le (p:=p) (xs:=a)
 omega
theorem QS {X:Cx}{A:Around}{E:Value→Shared→Prop}{s:Shared}{nm:String}{d p:Addr}{od o:Obj}{epd ep:Nat}{en:DictEntry}{b:Addr}{Q:Unit→Shared→Prop} (hdo:d≠p) (hoS:(p == sysModules)=false)
   (hod:s.heap.get? d=some od) (hdd:od.data=.dict #[] epd) (hoo:s.heap.get? p=some o) (hdo':o.data=.dict #[en] ep) (hk:en.key=.ref b) (hT:s.TypeIs (.ref b) "tuple")
   (h:Q () { s with heap:=s.heap.update d (Obj.mapDictKeys fun _=>#[en]) }):wpAny (model X.prog X.w) A (Builtin.Dict.mergeDict nm d p) Q E s:=by
 unfold Builtin.Dict.mergeDict
 rw [if_neg (by simpa using hdo)]
 unfold Builtin.Dict.showsAll
 rw [if_neg (by rw [hoS];exact Bool.false_ne_true)]
 refine wpAny_bind (wpAny_pure ?_)
 refine wpAny_bind (wpAny_dictEntries hoo hdo' ?_)
 have hfew:(decide (#[en].size≤8) && #[en].all fun e=>(keyPart e.key).isSome)=false:=by simp [hk,keyPart]
 dsimp only
 rw [hfew]
 simp only [Bool.not_false,if_true]
 refine wpAny_bind (wpAny_dictEntries hod hdd ?_)
 rw [if_pos (by rfl)]
 refine wpAny_bind ?_
 unfold Builtin.Dict.entriesForEmpty
 refine wpAny_bind (wpAny_dictEntries hoo hdo' ?_)
 refine wpAny_bind ?_
 rw [← Array.forIn_toList]
 refine wpAny_forIn_list _ (fun rest _ s'=>s'=s∧∀ x∈rest,x=en) _ ?_ ?_ _ _ ⟨rfl,fun x hx=>by simpa using hx⟩
 · rintro x rest u s' ⟨rfl,hr⟩
   obtain rfl:=hr x List.mem_cons_self
   rw [hk]
   unfold Builtin.Dict.quietEq
   refine wpAny_bind (wpAny_bind (wpAny_specialOf hT F.slot_tuple_eq.lookup (wpAny_pure ?_)))
   simp only [show (some (Value.builtin "tuple.__eq__") == some (Value.builtin "object.__eq__"))=false by symm,Bool.not_false,if_true]
   rw [if_neg (M8 _ _ (by show 1≤1;decide))]
   exact wpAny_pure ⟨rfl,fun y hy=>hr y (List.mem_cons_of_mem _ hy)⟩
 · rintro u s' ⟨rfl,_⟩
   refine wpAny_pure ?_
   rw [if_pos (by rfl)]
   exact wpAny_bind (wpAny_updateDictKeysTo hod hdd (wpAny_pure h) (by show 1≤sizeLine+1;omega))
theorem vL {X:Cx}:cQ X (.type "dict") (fun xs H Q=>∃ p k v,xs=[.ref p]∧H p=some (.dT [(k,v)])∧∀ d,H d=none→Q (.ref d) (upd H d (.dT [(k,v)]))):=by
 intro pins s σ H xs us Q I r h
 obtain⟨p,k,v,rfl,hp,q⟩:=h
 obtain⟨u,rfl,ru⟩:=r.one
 cases ru
 obtain⟨hz,hS,vs,rv,o,es,ep,ho,hc,hd,he,his,hn⟩:=Pj I.hok hp
 obtain⟨kk,b,vv,rfl,e1,hb,rvv⟩:∃ kk b vv,vs=[(kk,b,vv)]∧k=kk∧H b=some (.tup (k.map kV))∧RelV v vv:=by
   cases rv with
   | cons z t=>cases t;obtain⟨z1,z2,z3⟩:=z;exact⟨_,_,_,rfl,z1,z2,z3⟩
 subst e1
 have he:es=#[entryOfKey (tupleKind (cz X.prog X.w)) (k,b,vv)]:=by
   cases es with | mk l=>simp only at he;rw [he];rfl
 have hTb:(s.TypeIs (.ref b) "tuple"):=by
   obtain⟨_,its,r,o,h1,h2,n,h3⟩:=(show cD X.prog X.w H s.heap b (.tup (k.map kV)) from I.hok b _ hb)
   exact⟨o,h1,h2⟩
 subst he
 have hdo:s.heap.objs.size≠p:=fun e=>absurd (Heap.lt_size ho) (by rw [e];exact Nat.lt_irrefl _)
 refine callType_codes (Q₁:=fun obj s₁=>obj=.ref s.heap.objs.size∧s₁={ s with heap:=s.heap.push { cls:=.type "dict",data:=.dict #[] } }) F.kt_called_dict (F.kt_typeCall_dict_1 _) F.entry_dict_init (kt_code_dict_new _ ⟨rfl,rfl⟩) ?_
 rintro obj s₁ ⟨rfl,rfl⟩
 have hnew:(s.heap.push { cls:=.type "dict",data:=.dict #[] }).DictOf (cz X.prog X.w) s.heap.objs.size []:=Heap.DictOf.new s.heap
 have hTo:Shared.TypeIs { s with heap:=s.heap.push { cls:=.type "dict",data:=.dict #[] } } (.ref p) "dict":=⟨o,Heap.get?_push_of_some _ ho,hc.1⟩
 refine⟨hnew.typeIs,F.args_dict_init_2 _ _,?_⟩
 unfold Builtin.«dict.__init__»
 refine wpAny_bind ?_
 unfold Builtin.Dict.selfAndRest
 refine wpAny_bind (wpAny_notOrdered_dict hnew.typeIs ?_)
 show wpAny _ _ (pure (s.heap.objs.size,[Value.ref p])) _ _ _
 refine wpAny_pure ?_
 show wpAny _ _ (Builtin.Dict.updateFrom "dict.__init__" s.heap.objs.size (.ref p) [] .none) _ _ _
 unfold Builtin.Dict.updateFrom
 refine wpAny_bind (wpAny_typeOf hTo ?_)
 rw [if_neg (by decide)]
 refine wpAny_bind ?_
 unfold Builtin.Dict.merge
 refine wpAny_bind ?_
 unfold Builtin.Dict.readDirectly
 refine wpAny_bind (wpAny_isInstance hTo isSubtype_dict_dict ?_)
 simp only [Bool.not_true,Bool.false_eq_true,if_false]
 refine wpAny_bind (wpAny_specialOf hTo F.slot_dict_iter.lookup (wpAny_pure ?_))
 simp only [beq_self_eq_true,if_true]
 refine wpAny_bind (wpAny_pure ?_)
 have hp1:(s.heap.push { cls:=.type "dict",data:=.dict #[] }).get? s.heap.objs.size=some { cls:=.type "dict",data:=.dict #[] }:=Heap.get?_push_size _ rfl
 have apM:Shared.TypeIs { s with heap:=s.heap.push { cls:=.type "dict",data:=.dict #[] } } (.ref b) "tuple":=by
   obtain⟨ob,h1,h2⟩:=hTb
   exact⟨ob,Heap.get?_push_of_some _ h1,h2⟩
 refine QS (X:=X) hdo hS hp1 rfl (Heap.get?_push_of_some _ ho) hd rfl apM ?_
 show wpAny _ _ (Builtin.Dict.addKeywords s.heap.objs.size [] >>= _) _ _ _
 refine wpAny_bind (wpAny_pure (wpAny_pure ⟨rfl,?_⟩))
 have hn:H s.heap.objs.size=none:=I.hok.fresh (Nat.le_refl _)
 have big:=I.big
 refine⟨.ref s.heap.objs.size,_,I.laid (t':=s.toks) (o:=.dT [(k,v)]) (fun b o e=>?_) (Nat.le_refl _) ⟨hz,beq_false_of_ne (Nat.ne_of_gt big),[(k,b,vv)],.cons ⟨rfl,?_,rvv⟩ .nil,_,#[entryOfKey (tupleKind (cz X.prog X.w)) (k,b,vv)],1,Heap.get?_update_self _ hp1 rfl,⟨rfl,rfl,rfl⟩,rfl,rfl,by simp⟩,rfl,q _ hn⟩
 · rw [Heap.get?_update_ne _ _ _ _ (Nat.ne_of_lt (Heap.lt_size e))];exact Heap.get?_push_of_some _ e
 · rw [zI (zH hb hn)];exact hb
theorem TQ {X:Cx}{H:Hp}{n:Nat}{p q:Addr}{i j:Int} (h:H p=some (.tup [.int i,.int j])) (k:H q=some (.tup [.int i,.int j])):Sw X H (n+1) (.ref p) (.ref q) true:=by
 by_cases e:p=q
 · subst e;exact SJ
 · have:=QH (X:=X) (n:=n) (eY.of (K:=X.K) h) (eY.of (K:=X.K) k) rfl rfl
   have e2:SX [V.int i,V.int j] [V.int i,V.int j]=true:=by simp [SX,JP]
   rw [e2] at this
   exact SM e this
theorem TV {X:Cx}{A:Around}{E:Value→Shared→Prop}{s:Shared}{nm:String}{a b:Addr}{oa ob:Obj}{epa epb:Nat}{K:Type} [DecidableEq K] {knd:HeapKind X.prog X.w K}{k:K}{ka kb:Addr}{va vb:Value}{Q:Bool→Shared→Prop} (hu:knd.room A)
   (ha:(a == sysModules)=false) (hb:(b == sysModules)=false) (hoa:s.heap.get? a=some oa) (hda:oa.data=.dict #[entryOfKey knd (k,ka,va)] epa) (hob:s.heap.get? b=some ob) (hdb:ob.data=.dict #[entryOfKey knd (k,kb,vb)] epb)
   (hka:knd.is s.heap k ka) (hkb:knd.is s.heap k kb) (he:SeqAt.EqAt A s va vb true) (h:Q true s):wpAny (model X.prog X.w) A (Builtin.Dict.samePairs nm a b) Q E s:=by
 unfold Builtin.Dict.samePairs Builtin.Dict.showsAll
 rw [if_neg (show ¬ (a == sysModules)=true by rw [ha];exact Bool.false_ne_true),if_neg (show ¬ (b == sysModules)=true by rw [hb];exact Bool.false_ne_true)]
 refine wpAny_bind (wpAny_pure (wpAny_bind (wpAny_pure ?_)))
 refine wpAny_bind (wpAny_dictEntries hoa hda ?_)
 dsimp only
 refine wpAny_bind (wpAny_dictEntries hob hdb ?_)
 rw [if_neg (by simp)]
 refine wpAny_bind (wpAny_dictEpoch hoa hda ?_)
 refine wpAny_bind ?_
 rw [Std.Legacy.Range.forIn_eq_forIn_range']
 simp only [Std.Legacy.Range.size,Nat.sub_zero,Nat.add_sub_cancel,Nat.div_one]
 refine wpAny_forIn_list _ (fun rest q s'=>s'=s∧q=(none,())∧∀ x∈rest,x=0) _ ?_ ?_ _ _ ⟨rfl,rfl,fun x hx=>by have:=List.mem_range'_1.mp hx;simp at this;omega⟩
 · rintro x rest q s' ⟨rfl,rfl,hr⟩
   obtain rfl:=hr x List.mem_cons_self
   refine wpAny_bind (wpAny_dictEntries hoa hda ?_)
   show wpAny _ _ (holding [Value.ref ka,va] _ >>= _) _ _ _
   refine wpAny_bind (wpAny_holding (wpAny_bind (wpAny_dictFind_heap (k:=k) (xs:=[(k,kb,vb)]) hu hka hob hdb rfl (fun x hx=>by rw [List.mem_singleton.mp hx];exact hkb) (by simp) (fun z=>absurd rfl (z 0 _)) (fun j p hj=>?_))))
   have ej:j=0:=by
     cases j with
     | zero=>rfl
     | succ j=>simp at hj
   subst ej
   refine wpAny_bind (wpAny_dictEntries hob hdb ?_)
   show wpAny _ _ (holding _ _) _ _ _
   refine wpAny_holding (he X.prog X.w _ _ ?_)
   show wpAny _ _ (if (!true)=true then _ else _) _ _ _
   rw [if_neg (by decide)]
   refine wpAny_bind (wpAny_dictEpoch hoa hda ?_)
   rw [if_neg (by simp)]
   exact wpAny_pure ⟨rfl,rfl,fun y hy=>hr y (List.mem_cons_of_mem _ hy)⟩
 · rintro q s' ⟨rfl,rfl,_⟩
   exact wpAny_pure h
theorem PL {X:Cx} (hu:X.A.units+20<cLine):jc X (compareOp .NotEq) (fun x y H Q=>∃ p q k a b i j,x=.ref p∧y=.ref q∧H p=some (.dT [(k,.ref a)])∧H q=some (.dT [(k,.ref b)])∧H a=some (.tup [.int i,.int j])∧H b=some (.tup [.int i,.int j])∧Q (.bl false) H):=by
 intro pins s σ H x y v u Q I rx ry h
 obtain⟨p,q,k,a,b,i,j,rfl,rfl,hp,hq,hA,hB,kk⟩:=h
 cases rx
 cases ry
 have one:∀ {p a:Addr},H p=some (.dT [(k,.ref a)])→(p == sysModules)=false∧∃ o ep c,s.heap.get? p=some o∧o.ExactDict∧o.data=.dict #[entryOfKey (tupleKind (cz X.prog X.w)) (k,c,.ref a)] ep∧(tupleKind (cz X.prog X.w)).is s.heap k c:=fun {p a} hp=>by
   obtain⟨hz,hS,vs,rv,o,es,ep,ho,hc,hd,he,his,hn⟩:=Pj I.hok hp
   obtain⟨c,rfl⟩:∃ c,vs=[(k,c,.ref a)]:=by
     cases rv with
     | @cons _ q0 _ _ z t =>
       cases t
       obtain⟨z1,z2,z3⟩:=z
       obtain⟨q1,q2,q3⟩:=q0
       have z3:q3=Value.ref a:=z3
       have z1:k=q1:=z1
       subst z1 z3
       exact⟨_,rfl⟩
   have he:es=#[entryOfKey (tupleKind (cz X.prog X.w)) (k,c,.ref a)]:=by
     cases es with | mk l=>simp only at he;rw [he];rfl
   subst he
   exact⟨hS,o,ep,c,ho,hc,hd,his _ List.mem_cons_self⟩
 obtain⟨s1,o1,e1,c1,g1,x1,d1,i1⟩:=one hp
 obtain⟨s2,o2,e2,c2,g2,x2,d2,i2⟩:=one hq
 have t1:s.TypeIs (.ref p) "dict":=⟨o1,g1,x1.1⟩
 have t2:s.TypeIs (.ref q) "dict":=⟨o2,g2,x2.1⟩
 have hE:=TQ (X:=X) (n:=0) hA hB pins s σ _ _ X.A.in1 I rfl rfl (by show X.A.units+1+1<cLine;omega)
 refine wpAny_richCompare_same_room (op:=.NotEq) t1 t2 PySem.F.slot_dict_ne (wpAny_call_entry PySem.F.slot_dict_ne t1 PySem.F.entry_dict_ne ?_ (PySem.F.args_dict_ne_2 _ _)) (by omega)
 show wpAny _ _ (Builtin.Dict.dictSlotArgs "__ne__" ⟨[.ref p,.ref q],[]⟩ >>= _) _ _ s
 refine wpAny_bind ?_
 unfold Builtin.Dict.dictSlotArgs
 refine wpAny_bind (wpAny_notOrdered_dict t1 ?_)
 show wpAny _ _ (pure (Value.ref p,Value.ref q)) _ _ s
 refine wpAny_pure ?_
 refine wpAny_bind (wpAny_isInstance (T:="dict") t2 PySem.F.sub_dict_dict ?_)
 simp only [Bool.not_true,Bool.false_eq_true,if_false]
 refine wpAny_bind (wpAny_pure (wpAny_bind (wpAny_pure ?_)))
 refine wpAny_bind (TV (X:=X) (knd:=tupleKind (cz X.prog X.w)) (tupleKind_room_in1 (by omega)) s1 s2 g1 d1 g2 d2 i1 i2 hE ?_)
 refine wpAny_pure ⟨_,rfl,?_,?_⟩
 · exact fun x=>nomatch x
 · exact⟨.bl false,H,I,rfl,kk⟩
end L2
namespace j4
open PySem L2
def top (i:Nat):Stmt:=PySem.Challenge.pw_askpaper_k51_one_atom.main.body.getD i (.Pass ⟨0,0,0,0⟩)
abbrev bK:Stmt:=inClass (top 23) 0
abbrev bz:Stmt:=inClass (top 24) 0
abbrev bW:Stmt:=inClass (top 24) 1
abbrev aO:Stmt:=inClass (top 24) 2
abbrev bY:Stmt:=inClass (top 24) 4
abbrev bL:Stmt:=inClass (top 27) 0
abbrev cF:Stmt:=inClass (top 27) 1
abbrev aX:Stmt:=inClass (top 27) 2
abbrev cG:Stmt:=inClass (top 27) 4
abbrev bA:Stmt:=inClass (top 28) 0
abbrev bZ:Stmt:=inClass (top 30) 0
abbrev bJ:Stmt:=inClass (top 31) 0
abbrev bB:Stmt:=inClass (top 32) 0
abbrev bC:Stmt:=inClass (top 33) 0
abbrev dX:Stmt:=top 35
abbrev dC:Stmt:=top 36
abbrev b7:Stmt:=top 40
abbrev bD:Stmt:=inClass (top 41) 0
abbrev b8:Stmt:=inClass (top 41) 4
abbrev aP:Stmt:=inClass (top 41) 5
abbrev aY:Stmt:=inClass (top 41) 6
abbrev aQ:Stmt:=inClass (top 41) 8
abbrev aL:Stmt:=inClass (top 41) 10
abbrev aM:Stmt:=inClass (top 41) 11
abbrev bM:Stmt:=inClass (top 41) 12
abbrev cV:Stmt:=inClass (top 41) 13
abbrev dY:Stmt:=top 43
abbrev bj:Stmt:=top 44
abbrev aH:Stmt:=inClass (top 45) 5
abbrev cg:Stmt:=inClass (top 46) 0
abbrev cW:Stmt:=inClass (top 46) 2
abbrev cj:Stmt:=inClass (top 46) 3
abbrev dD:Stmt:=inClass (top 46) 5
abbrev aZ:Stmt:=inClass (top 47) 0
abbrev bu:Stmt:=inClass (top 47) 2
abbrev aR:Stmt:=inClass (top 47) 3
abbrev bG:Stmt:=inClass (top 47) 5
abbrev cu:Stmt:=inClass (top 48) 0
abbrev cH:Stmt:=inClass (top 48) 2
abbrev bN:Stmt:=inClass (top 48) 3
abbrev cX:Stmt:=inClass (top 48) 5
abbrev dZ:Stmt:=top 50
abbrev fK:Stmt:=top 51
abbrev gP:Stmt:=top 52
abbrev bH:Stmt:=inClass (top 53) 0
abbrev bc:Stmt:=inClass (top 53) 1
abbrev aU:Stmt:=inClass (top 53) 2
abbrev cI:Stmt:=inClass (top 53) 3
abbrev bw:Stmt:=inClass (top 53) 4
abbrev aK:Stmt:=inClass (top 53) 5
abbrev bf:Stmt:=inClass (top 53) 6
abbrev d7:Stmt:=top 54
abbrev dF:Stmt:=top 56
abbrev d8:Stmt:=top 57
abbrev d9:Stmt:=top 58
abbrev jF:Stmt:=top 59
abbrev eE:Stmt:=top 61
abbrev eF:Stmt:=top 62
abbrev eG:Stmt:=top 63
abbrev cY:Stmt:=top 64
abbrev dG:Stmt:=top 65
abbrev fL:Stmt:=top 66
abbrev dH:Stmt:=top 67
abbrev dI:Stmt:=top 68
abbrev eN:Stmt:=top 69
abbrev cZ:Stmt:=top 70
abbrev eO:Stmt:=top 71
abbrev dJ:Stmt:=top 72
abbrev vM:Stmt:=top 73
set_option genInjectivity false
set_option genSizeOf false
structure cT where
 fG:Addr
 j5:FuncData
 jj:Addr
 jk:FuncData
 lO:Addr
 lQ:FuncData
 gA:Addr
 gB:FuncData
 lR:Addr
 lU:FuncData
 j6:Addr
 j7:FuncData
 nT:Addr
 nU:FuncData
 gZ:Addr
 ie:FuncData
 nW:Addr
 nY:FuncData
 jl:Addr
 jm:FuncData
 vN:List Value
 lV:Addr
 lW:FuncData
 lX:Addr
 iH:FuncData
 j8:List Value
 jn:Addr
 jo:FuncData
 jq:Addr
 jr:FuncData
 pA:Addr
 uh:FuncData
 m6:Addr
 qH:FuncData
 iI:Addr
 lY:FuncData
 jt:Addr
 ju:FuncData
 lZ:Addr
 mj:FuncData
 gC:Addr
 gD:FuncData
 ig:Addr
 ik:FuncData
 gG:Addr
 gH:FuncData
 fW:Addr
 fX:FuncData
 fY:Addr
 fZ:FuncData
 j9:Addr
 kh:FuncData
 pB:Addr
 pC:FuncData
 pD:Addr
 um:FuncData
 fP:Addr
 iJ:FuncData
 cR:Addr
 fM:FuncData
 nZ:Addr
 jG:FuncData
 mq:List Value
 pF:Addr
 pG:FuncData
 my:Addr
 mz:FuncData
 qI:Addr
 qJ:FuncData
 il:Addr
 ir:FuncData
 iK:Addr
 iM:FuncData
 gJ:Addr
 gK:FuncData
 jw:Addr
 jx:FuncData
 mC:Addr
 mD:FuncData
 oh:Addr
 ou:FuncData
 kj:Addr
 km:FuncData
 pH:Addr
 pI:FuncData
 pJ:Addr
 uo:FuncData
 sy:Addr
 xf:FuncData
 vO:Addr
 CP:FuncData
 jy:Addr
 jz:FuncData
 iu:Addr
 iw:FuncData
 gM:Addr
 gO:FuncData
 oA:Addr
 oE:FuncData
 iQ:Addr
 iR:FuncData
 kE:Addr
 aW:FuncData
 iy:Addr
 iz:FuncData
 pK:Addr
 uq:FuncData
 m7:Addr
 qK:FuncData
 pL:Addr
 ur:FuncData
 pM:Addr
 uv:FuncData
 Bw:Addr
 HW:FuncData
 TX:List Value
 pN:Addr
 uw:FuncData
 pO:Addr
 ux:FuncData
 pP:Addr
 uy:FuncData
 lA:Addr
 pQ:FuncData
 m8:Addr
 qL:FuncData
 sE:Addr
 xg:FuncData
 m9:Addr
 qM:FuncData
 nq:Addr
 qN:FuncData
 pR:Addr
 uz:FuncData
 lB:Addr
 pU:FuncData
 pW:Addr
 uA:FuncData
 nu:Addr
 qO:FuncData
 TY:Addr
 T3:FuncData
 oR:Addr
 oU:Addr
 az:Addr
 cA:Addr
 PN:Addr
 oV:Addr
 T4:Addr
 iT:Addr
 dh:Addr
 qe:Addr
 gW:Addr
 cN:Addr
 YM:Addr
 adV:Addr
 jH:Addr
 dB:Addr
 bI:Addr
structure Txt (K:W.Frag) (mg:Str→Option Value) (A:cT):Prop where
 An:fV K "__init__" "Kind.__init__" bK A.fG A.j5
 fH:Binds K A.j5 ["self","low","high"] []
 xj:fV K "__init__" "YesNo.__init__" bz A.jj A.jk
 oW:Binds K A.jk ["self"] []
 CQ:fV K "fits" "YesNo.fits" bW A.lO A.lQ
 CT:Binds K A.lQ ["self","thing"] []
 sJ:fV K "answer_of" "YesNo.answer_of" aO A.gA A.gB
 sO:Binds K A.gB ["self","text"] []
 CV:fV K "rank" "YesNo.rank" bY A.lR A.lU
 CW:Binds K A.lU ["self","answer"] []
 Ao:fV K "__init__" "Pick.__init__" bL A.j6 A.j7
 Aq:Binds K A.j7 ["self","words"] []
 Fq:fV K "fits" "Pick.fits" cF A.nT A.nU
 Ft:Binds K A.nU ["self","thing"] []
 uB:fV K "answer_of" "Pick.answer_of" aX A.gZ A.ie
 uC:Binds K A.ie ["self","text"] []
 Fv:fV K "rank" "Pick.rank" cG A.nW A.nY
 Fw:Binds K A.nY ["self","answer"] []
 xm:HN K "__init__" "Names.__init__" bA A.vN A.jl A.jm
 xn:Binds K A.jm ["self","most"] []
 CZ:fV K "__init__" "Row.__init__" bZ A.lV A.lW
 Dc:Binds K A.lW ["self","name"] []
 Dd:HN K "__init__" "Ask.__init__" bJ A.j8 A.lX A.iH
 De:Binds K A.iH ["self","name","kind","when"] []
 Ar:Binds K A.iH ["self","name","kind","when"] A.j8
 Av:Vals [.non] A.j8
 xq:fV K "__init__" "Sheet.__init__" bB A.jn A.jo
 xr:Binds K A.jo ["self","name","each","rows","ways"] []
 xu:fV K "__init__" "Paper.__init__" bC A.jq A.jr
 xx:Binds K A.jr ["self","name","sheets","totals"] []
 M9:fV K "kinds_of" "kinds_of" dX A.pA A.uh
 Df:Binds K A.uh ["paper"] []
 Dg:W.keepIn K (.ref A.pA)=true
 Dh:mg "kinds_of" = some (.ref A.pA)
 Kc:fV K "eaches_of" "eaches_of" dC A.m6 A.qH
 Kd:Binds K A.qH ["paper"] []
 Ke:W.keepIn K (.ref A.m6)=true
 Kf:mg "eaches_of" = some (.ref A.m6)
 Di:fV K "all_together" "all_together" b7 A.iI A.lY
 Dj:Binds K A.lY ["paper"] []
 Dk:W.keepIn K (.ref A.iI)=true
 Dl:mg "all_together" = some (.ref A.iI)
 xT:fV K "__init__" "Going.__init__" bD A.jt A.ju
 xU:Binds K A.ju ["self","paper","alone"] []
 Dm:fV K "note" "Going.note" b8 A.lZ A.mj
 Dp:Binds K A.mj ["self","question","thing","known"] []
 sS:fV K "own_thing" "Going.own_thing" aP A.gC A.gD
 sU:Binds K A.gD ["self","question","thing"] []
 uD:fV K "known_of" "Going.known_of" aY A.ig A.ik
 uE:Binds K A.ik ["self","question","thing"] []
 sV:fV K "stop_with" "Going.stop_with" aQ A.gG A.gH
 sW:Binds K A.gH ["self","row"] []
 qP:fV K "go_through" "Going.go_through" aL A.fW A.fX
 qQ:Binds K A.fX ["self","sheet","thing"] []
 qR:fV K "targets_of" "Going.targets_of" aM A.fY A.fZ
 qT:Binds K A.fZ ["self","sheet"] []
 Aw:fV K "leave" "Going.leave" bM A.j9 A.kh
 Ax:Binds K A.kh ["self","place"] []
 HX:fV K "go" "Going.go" cV A.pB A.pC
 HY:Binds K A.pC ["self"] []
 Nb:fV K "compares" "compares" dY A.pD A.um
 Nf:Binds K A.um ["rank","how","number"] []
 Ng:W.keepIn K (.ref A.pD)=true
 Nh:mg "compares" = some (.ref A.pD)
 vP:fV K "surely_compares" "surely_compares" bj A.fP A.iJ
 nA:Binds K A.iJ ["span","how","number"] []
 nC:W.keepIn K (.ref A.fP)=true
 nD:mg "surely_compares" = some (.ref A.fP)
 qu:fV K "first_open" "Saying.first_open" aH A.cR A.fM
 fO:Binds K A.fM ["self","look"] []
 Fx:HN K "__init__" "Is.__init__" cg A.mq A.nZ A.jG
 Fy:Binds K A.jG ["self","name","word","place"] []
 qU:Binds K A.jG ["self","name","word","place"] A.mq
 qW:Vals [.non] A.mq
 Ia:fV K "atoms" "Is.atoms" cW A.pF A.pG
 Ib:Binds K A.pG ["self"] []
 Dq:fV K "settled" "Is.settled" cj A.my A.mz
 Dr:Binds K A.mz ["self","kinds"] []
 Kg:fV K "sure" "Is.sure" dD A.qI A.qJ
 Kh:Binds K A.qJ ["self","look"] []
 uF:fV K "__init__" "Compare.__init__" aZ A.il A.ir
 mF:Binds K A.ir ["self","name","how","number"] []
 vQ:fV K "atoms" "Compare.atoms" bu A.iK A.iM
 vR:Binds K A.iM ["self"] []
 sX:fV K "settled" "Compare.settled" aR A.gJ A.gK
 sY:Binds K A.gK ["self","kinds"] []
 xV:fV K "sure" "Compare.sure" bG A.jw A.jx
 xW:Binds K A.jx ["self","look"] []
 Ds:fV K "__init__" "Not.__init__" cu A.mC A.mD
 qX:Binds K A.mD ["self","test"] []
 FJ:fV K "atoms" "Not.atoms" cH A.oh A.ou
 FN:Binds K A.ou ["self"] []
 Ay:fV K "settled" "Not.settled" bN A.kj A.km
 Az:Binds K A.km ["self","kinds"] []
 Ie:fV K "sure" "Not.sure" cX A.pH A.pI
 Ig:Binds K A.pI ["self","look"] []
 Ni:fV K "range_in" "range_in" dZ A.pJ A.uo
 uG:Binds K A.uo ["box","kinds","question","k"] []
 uH:W.keepIn K (.ref A.pJ)=true
 uI:mg "range_in" = some (.ref A.pJ)
 QT:fV K "cut_out" "cut_out" fK A.sy A.xf
 G7:Binds K A.xf ["number","low"] []
 G8:W.keepIn K (.ref A.sy)=true
 Hd:mg "cut_out" = some (.ref A.sy)
 T5:fV K "cut_of" "cut_of" gP A.vO A.CP
 T6:Binds K A.CP ["atom","low"] []
 T7:W.keepIn K (.ref A.vO)=true
 T8:mg "cut_of" = some (.ref A.vO)
 xX:fV K "__init__" "ByBox.__init__" bH A.jy A.jz
 xY:Binds K A.jz ["self","paper","box"] []
 uJ:fV K "split_at" "ByBox.split_at" bc A.iu A.iw
 uK:Binds K A.iw ["self","question","thing","cut"] []
 sZ:fV K "things_of" "ByBox.things_of" aU A.gM A.gO
 tu:Binds K A.gO ["self","sheet"] []
 FP:fV K "put" "ByBox.put" cI A.oA A.oE
 FQ:Binds K A.oE ["self","question","thing"] []
 vU:fV K "span_of" "ByBox.span_of" bw A.iQ A.iR
 vV:Binds K A.iR ["self","name","thing"] []
 Ba:fV K "is_so" "ByBox.is_so" aK A.kE A.aW
 Bb:Binds K A.aW ["self","saying","thing"] []
 uL:fV K "split_by" "ByBox.split_by" bf A.iy A.iz
 uM:Binds K A.iz ["self","atom","thing"] []
 Nj:fV K "going_by" "going_by" d7 A.pK A.uq
 uN:Binds K A.uq ["paper","box"] []
 uO:W.keepIn K (.ref A.pK)=true
 uP:mg "going_by" = some (.ref A.pK)
 Kl:fV K "ranges_of" "ranges_of" dF A.m7 A.qK
 Km:Binds K A.qK ["log","box","kinds"] []
 Ko:W.keepIn K (.ref A.m7)=true
 Kp:mg "ranges_of" = some (.ref A.m7)
 Nk:fV K "narrowed" "narrowed" d8 A.pL A.ur
 Dt:Binds K A.ur ["box","question","k","span"] []
 Du:W.keepIn K (.ref A.pL)=true
 Dv:mg "narrowed" = some (.ref A.pL)
 Np:fV K "parts_of" "parts_of" d9 A.pM A.uv
 Nq:Binds K A.uv ["box","kinds","question","k","cut"] []
 Nr:W.keepIn K (.ref A.pM)=true
 Nt:mg "parts_of" = some (.ref A.pM)
 W8:HN K "cover" "cover" jF A.TX A.Bw A.HW
 PQ:Binds K A.HW ["paper","most","fixed"] []
 PX:W.keepIn K (.ref A.Bw)=true
 P0:mg "cover" = some (.ref A.Bw)
 Nu:fV K "_law_cell" "_law_cell" eE A.pN A.uw
 gb:Binds K A.uw ["_law_script","_law_k"] []
 gf:W.keepIn K (.ref A.pN)=true
 gh:mg "_law_cell" = some (.ref A.pN)
 Nv:fV K "_law_name" "_law_name" eF A.pO A.ux
 Dw:Binds K A.ux ["_law_script","_law_k"] []
 Dy:W.keepIn K (.ref A.pO)=true
 Dz:mg "_law_name" = some (.ref A.pO)
 Nx:fV K "_law_kind" "_law_kind" eG A.pP A.uy
 Ny:Binds K A.uy ["_law_cell_here"] []
 Nz:W.keepIn K (.ref A.pP)=true
 NB:mg "_law_kind" = some (.ref A.pP)
 Ih:fV K "_law_object" "_law_object" cY A.lA A.pQ
 Ii:Binds K A.pQ ["_law_kind_here"] []
 Ij:W.keepIn K (.ref A.lA)=true
 Ik:mg "_law_object" = some (.ref A.lA)
 Kr:fV K "_law_three" "_law_three" dG A.m8 A.qL
 zu:Binds K A.qL ["_law_how","_law_low","_law_high","_law_number"] []
 zx:W.keepIn K (.ref A.m8)=true
 zy:mg "_law_three" = some (.ref A.m8)
 QV:fV K "_law_cut" "_law_cut" fL A.sE A.xg
 Hf:Binds K A.xg ["_law_how","_law_low","_law_number"] []
 Hg:W.keepIn K (.ref A.sE)=true
 Hh:mg "_law_cut" = some (.ref A.sE)
 Ks:fV K "_law_alike" "_law_alike" dH A.m9 A.qM
 jQ:Binds K A.qM ["_law_found","_law_due"] []
 jR:W.keepIn K (.ref A.m9)=true
 jT:mg "_law_alike" = some (.ref A.m9)
 Ku:fV K "_law_range" "_law_range" dI A.nq A.qN
 Kv:Binds K A.qN ["_law_script","_law_kind_here"] []
 Kw:W.keepIn K (.ref A.nq)=true
 Kz:mg "_law_range" = some (.ref A.nq)
 NK:fV K "_law_atom" "_law_atom" eN A.pR A.uz
 NP:Binds K A.uz ["_law_script","_law_kind_here","_law_low","_law_high"] []
 NQ:W.keepIn K (.ref A.pR)=true
 NT:mg "_law_atom" = some (.ref A.pR)
 Il:fV K "_law_saying" "_law_saying" cZ A.lB A.pU
 Im:Binds K A.pU ["_law_script","_law_name_here","_law_kind_here","_law_atom_here"] []
 Io:W.keepIn K (.ref A.lB)=true
 Ip:mg "_law_saying" = some (.ref A.lB)
 NZ:fV K "_law_leaf" "_law_leaf" eO A.pW A.uA
 DG:Binds K A.uA ["_law_names","_law_known","_law_denied","_law_low","_law_high"] []
 DK:W.keepIn K (.ref A.pW)=true
 DN:mg "_law_leaf" = some (.ref A.pW)
 KC:fV K "_law_nodes" "_law_nodes" dJ A.nu A.qO
 KD:Binds K A.qO ["_law_names","_law_atom_here","_law_denied","_law_span","_law_most"] []
 KH:W.keepIn K (.ref A.nu)=true
 KJ:mg "_law_nodes" = some (.ref A.nu)
 YQ:fV K "law" "law" vM A.TY A.T3
 adW:mg "law" = some (.ref A.TY)
 xZ:mg "WRITTEN_TRUTHS" = some (.ref A.oR)
 yc:aab K A.oR [("yes",true),("no",false)]
 adX:mg "all" = none
 adY:mg "any" = none
 yd:mg "bool" = none
 N5:mg "dict" = none
 adZ:mg "int" = none
 aF:mg "isinstance" = none
 jf:mg "len" = none
 pX:mg "list" = none
 ad0:mg "min" = none
 W9:mg "range" = none
 T9:mg "str" = none
 Qa:mg "tuple" = none
 Bc:W.kitOne K (.type "NoneType") (.type "bool")=some false
 nG:W.kitOne K (.type "bool") (.type "bool")=some true
 DP:W.kitOne K (.type "int") (.type "bool")=some false
 DQ:W.kitOne K (.type "str") (.type "bool")=some false
 QW:W.kitOne K (.type "int") (.type "int")=some true
 QX:W.kitOne K (.type "int") (.type "str")=some false
 ye:W.kitOne K (.type "str") (.type "str")=some true
 Bd:W.kitOne K (.type "NoneType") (.type "list")=some false
 KN:W.kitOne K (.type "bool") (.type "list")=some false
 N6:W.kitOne K (.type "int") (.type "list")=some false
 N7:W.kitOne K (.type "str") (.type "list")=some false
 nH:W.kitOne K (.type "list") (.type "list")=some true
 lC:W.kitOne K (.type "tuple") (.type "list")=some false
 yf:W.kitOne K (.type "NoneType") (.type "tuple")=some false
 Ir:W.kitOne K (.type "bool") (.type "tuple")=some false
 KQ:W.kitOne K (.type "int") (.type "tuple")=some false
 KR:W.kitOne K (.type "str") (.type "tuple")=some false
 vW:W.kitOne K (.type "list") (.type "tuple")=some false
 tQ:W.kitOne K (.type "tuple") (.type "tuple")=some true
 YS:mg "Ask" = some (.ref A.oU)
 Ua:Cp mg "Ask" (.ref A.oU)
 Xa:mg "ByBox" = some (.ref A.az)
 Hi:mg "Compare" = some (.ref A.cA)
 Xb:mg "Going" = some (.ref A.PN)
 aao:mg "Is" = some (.ref A.oV)
 apO:Cp mg "Is" (.ref A.oV)
 N8:mg "Kind" = some (.ref A.T4)
 Xc:mg "Money" = some (.ref A.iT)
 Xd:mg "Names" = some (.ref A.dh)
 Xe:Cp mg "Names" (.ref A.dh)
 YT:mg "Not" = some (.ref A.qe)
 Xf:mg "Paper" = some (.ref A.gW)
 aap:mg "Pick" = some (.ref A.cN)
 aaq:Cp mg "Pick" (.ref A.cN)
 ad1:mg "Row" = some (.ref A.YM)
 Xg:mg "Sheet" = some (.ref A.jH)
 Xh:mg "Whole" = some (.ref A.dB)
 Xi:Cp mg "Whole" (.ref A.dB)
 Qc:mg "YesNo" = some (.ref A.bI)
 Xj:Cp mg "YesNo" (.ref A.bI)
 uQ:W.kitOne K (.ref A.oU) (.ref A.oU)=some true
 DR:W.kitOne K (.ref A.bI) (.ref A.bI)=some true
 FT:W.kitOne K (.ref A.bI) (.ref A.cN)=some false
 FW:W.kitOne K (.ref A.cN) (.ref A.bI)=some false
 Iu:W.kitOne K (.ref A.cN) (.ref A.cN)=some true
 DW:W.kitOne K (.ref A.dB) (.ref A.dB)=some true
 DX:W.kitOne K (.ref A.dB) (.ref A.dh)=some false
 DY:W.kitOne K (.ref A.iT) (.ref A.dB)=some true
 Ea:W.kitOne K (.ref A.iT) (.ref A.dh)=some false
 Ec:W.kitOne K (.ref A.dh) (.ref A.dB)=some false
 Ed:W.kitOne K (.ref A.dh) (.ref A.dh)=some true
 Ub:W.kitOne K (.ref A.oV) (.ref A.oV)=some true
 FZ:W.kitOne K (.ref A.cA) (.ref A.oV)=some false
 qY:Ak K A.bI
 Uc:∀ (H:Hp) (a dx:Addr) (fs:List (Str × V)),H a=some (.ins A.bI dx fs)→aD K H (.ref a) (.ref A.bI)
 KY:Mk K A.bI A.jj
 Gb:Meth K A.bI "fits" A.lO
 uR:Meth K A.bI "answer_of" A.gA
 Gd:Meth K A.bI "rank" A.lR
 vX:aJ K A.bI "low"
 tR:aJ K A.bI "high"
 KZ:Ak K A.dB
 Ud:∀ (H:Hp) (a dx:Addr) (fs:List (Str × V)),H a=some (.ins A.dB dx fs)→aD K H (.ref a) (.ref A.dB)
 Ue:Mk K A.dB A.fG
 vY:aJ K A.dB "low"
 tU:aJ K A.dB "high"
 K4:Ak K A.iT
 Ug:∀ (H:Hp) (a dx:Addr) (fs:List (Str × V)),H a=some (.ins A.iT dx fs)→aD K H (.ref a) (.ref A.iT)
 Uh:Mk K A.iT A.fG
 vZ:aJ K A.iT "low"
 tV:aJ K A.iT "high"
 K6:Ak K A.dh
 Ui:∀ (H:Hp) (a dx:Addr) (fs:List (Str × V)),H a=some (.ins A.dh dx fs)→aD K H (.ref a) (.ref A.dh)
 Uj:Mk K A.dh A.jl
 v5:aJ K A.dh "low"
 tW:aJ K A.dh "high"
 nJ:Ak K A.cN
 Xk:∀ (H:Hp) (a dx:Addr) (fs:List (Str × V)),H a=some (.ins A.cN dx fs)→aD K H (.ref a) (.ref A.cN)
 Xl:Mk K A.cN A.j6
 Iv:Meth K A.cN "fits" A.nT
 v9:Meth K A.cN "answer_of" A.gZ
 Iw:Meth K A.cN "rank" A.nW
 zz:aJ K A.cN "low"
 wg:aJ K A.cN "high"
 oF:aJ K A.cN "words"
 qZ:Ak K A.oU
 Oa:∀ (H:Hp) (a dx:Addr) (fs:List (Str × V)),H a=some (.ins A.oU dx fs)→aD K H (.ref a) (.ref A.oU)
 Uk:Mk K A.oU A.lX
 nM:aJ K A.oU "name"
 z9:aJ K A.oU "kind"
 Aa:aJ K A.oU "when"
 gQ:Ak K A.jH
 Ul:Mk K A.jH A.jn
 Ge:aJ K A.jH "name"
 oG:aJ K A.jH "each"
 jJ:aJ K A.jH "rows"
 tX:aJ K A.jH "ways"
 iU:Ak K A.gW
 Um:Mk K A.gW A.jq
 Gf:aJ K A.gW "name"
 dR:aJ K A.gW "sheets"
 qg:aJ K A.gW "totals"
 aA:Ak K A.az
 Uo:Mk K A.az A.jy
 uT:Meth K A.az "things_of" A.gM
 Iz:Meth K A.az "put" A.oA
 Ef:Meth K A.az "is_so" A.kE
 Gg:Meth K A.az "note" A.lZ
 uU:Meth K A.az "stop_with" A.gG
 tD:Meth K A.az "go_through" A.fW
 tE:Meth K A.az "targets_of" A.fY
 Eg:Meth K A.az "leave" A.j9
 K7:Meth K A.az "go" A.pB
 uV:Meth K A.az "own_thing" A.gC
 wj:Meth K A.az "known_of" A.ig
 yg:Meth K A.az "span_of" A.iQ
 wk:Meth K A.az "split_at" A.iu
 wu:Meth K A.az "split_by" A.iy
 iV:aJ K A.az "paper"
 mG:aJ K A.az "alone"
 mH:aJ K A.az "kinds"
 qi:aJ K A.az "eaches"
 iW:aJ K A.az "together"
 gj:aJ K A.az "asked"
 lD:aJ K A.az "log"
 oY:aJ K A.az "doubles"
 eQ:aJ K A.az "over"
 wy:aJ K A.az "box"
 gn:aJ K A.az "cutting"
 jg:Ak K A.oV
 ad2:∀ (H:Hp) (a dx:Addr) (fs:List (Str × V)),H a=some (.ins A.oV dx fs)→aD K H (.ref a) (.ref A.oV)
 Up:Mk K A.oV A.nZ
 Gh:Meth K A.oV "settled" A.my
 Ob:Meth K A.oV "sure" A.qI
 K8:Meth K A.oV "atoms" A.pF
 yh:Meth K A.oV "first_open" A.cR
 jA:aJ K A.oV "name"
 mJ:aJ K A.oV "word"
 q9:aJ K A.oV "place"
 aC:Ak K A.cA
 Oc:∀ (H:Hp) (a dx:Addr) (fs:List (Str × V)),H a=some (.ins A.cA dx fs)→aD K H (.ref a) (.ref A.cA)
 Eh:Mk K A.cA A.il
 uW:Meth K A.cA "settled" A.gJ
 Be:Meth K A.cA "sure" A.jw
 yj:Meth K A.cA "atoms" A.iK
 qw:Meth K A.cA "first_open" A.cR
 cJ:aJ K A.cA "name"
 dM:aJ K A.cA "how"
 bU:aJ K A.cA "number"
 rn:Ak K A.qe
 Uq:Mk K A.qe A.mC
 Ei:Meth K A.qe "settled" A.kj
 K9:Meth K A.qe "sure" A.pH
 IK:Meth K A.qe "atoms" A.oh
 wz:Meth K A.qe "first_open" A.cR
 nO:aJ K A.qe "test"
 Gi:Px K A.PN "__init__" A.jt
 pY:Px K A.T4 "__init__" A.fG
 La:Px K A.YM "__init__" A.lV
theorem yl:au ["self","low","high"] ["self","low","high"] (aa bK):=⟨rfl,rfl,rfl,by symm,rfl,by symm,by symm⟩
theorem wA:au ["self"] ["self"] (aa bz):=⟨rfl,rfl,rfl,by symm,rfl,by symm,by symm⟩
theorem Bf:au ["self","thing"] ["self","thing"] (aa bW):=⟨rfl,rfl,rfl,by symm,rfl,by symm,by symm⟩
theorem rA:au ["self","text"] ["self","text"] (aa aO):=⟨rfl,rfl,rfl,by symm,rfl,by symm,by symm⟩
theorem Bg:au ["self","answer"] ["self","answer"] (aa bY):=⟨rfl,rfl,rfl,by symm,rfl,by symm,by symm⟩
theorem ym:au ["self","words"] ["self","words"] (aa bL):=⟨rfl,rfl,rfl,by symm,rfl,by symm,by symm⟩
theorem Ej:au ["self","thing"] ["self","thing"] (aa cF):=⟨rfl,rfl,rfl,by symm,rfl,by symm,by symm⟩
theorem tG:au ["self","text"] ["self","text"] (aa aX):=⟨rfl,rfl,rfl,by symm,rfl,by symm,by symm⟩
theorem Ek:au ["self","answer"] ["self","answer"] (aa cG):=⟨rfl,rfl,rfl,by symm,rfl,by symm,by symm⟩
theorem wB:au ["self","most"] ["self","most"] (aa bA):=⟨rfl,rfl,rfl,by symm,rfl,by symm,by symm⟩
theorem Bh:au ["self","name"] ["self","name"] (aa bZ):=⟨rfl,rfl,rfl,by symm,rfl,by symm,by symm⟩
theorem Bj:au ["self","name","kind","when"] ["self","name","kind","when"] (aa bJ):=⟨rfl,rfl,rfl,by symm,rfl,by symm,by symm⟩
theorem wC:au ["self","name","each","rows","ways"] ["self","name","each","rows","ways"] (aa bB):=⟨rfl,rfl,rfl,by symm,rfl,by symm,by symm⟩
theorem wD:au ["self","name","sheets","totals"] ["self","name","sheets","totals"] (aa bC):=⟨rfl,rfl,rfl,by symm,rfl,by symm,by symm⟩
theorem nP:au ["paper","kinds","sheet","row"] ["paper"] (aa dX):=⟨rfl,rfl,rfl,by symm,rfl,by symm,by symm⟩
theorem lE:au ["paper","eaches","sheet","row"] ["paper"] (aa dC):=⟨rfl,rfl,rfl,by symm,rfl,by symm,by symm⟩
theorem Bk:au ["paper"] ["paper"] (aa b7):=⟨rfl,rfl,rfl,by symm,rfl,by symm,by symm⟩
theorem wF:au ["self","paper","alone"] ["self","paper","alone"] (aa bD):=⟨rfl,rfl,rfl,by symm,rfl,by symm,by symm⟩
theorem Bl:au ["self","question","thing","known"] ["self","question","thing","known"] (aa b8):=⟨rfl,rfl,rfl,by symm,rfl,by symm,by symm⟩
theorem rB:au ["self","question","thing"] ["self","question","thing"] (aa aP):=⟨rfl,rfl,rfl,by symm,rfl,by symm,by symm⟩
theorem tH:au ["self","question","thing"] ["self","question","thing"] (aa aY):=⟨rfl,rfl,rfl,by symm,rfl,by symm,by symm⟩
theorem rC:au ["self","row"] ["self","row"] (aa aQ):=⟨rfl,rfl,rfl,by symm,rfl,by symm,by symm⟩
theorem jh:au ["self","sheet","thing","row"] ["self","sheet","thing"] (aa aL):=⟨rfl,rfl,rfl,by symm,rfl,by symm,by symm⟩
theorem dN:au ["self","sheet","targets","target","saying"] ["self","sheet"] (aa aM):=⟨rfl,rfl,rfl,by symm,rfl,by symm,by symm⟩
theorem gq:au ["self","place","sheet","targets","names"] ["self","place"] (aa bM):=⟨rfl,rfl,rfl,by symm,rfl,by symm,by symm⟩
theorem gR:au ["self","place","sheet","thing"] ["self"] (aa cV):=⟨rfl,rfl,rfl,by symm,rfl,by symm,by symm⟩
theorem Lb:au ["rank","how","number"] ["rank","how","number"] (aa dY):=⟨rfl,rfl,rfl,by symm,rfl,by symm,by symm⟩
theorem iB:au ["span","how","number","at_ends","between"] ["span","how","number"] (aa bj):=⟨rfl,rfl,rfl,by symm,rfl,by symm,by symm⟩
theorem iY:au ["self","look","atom"] ["self","look"] (aa aH):=⟨rfl,rfl,rfl,by symm,rfl,by symm,by symm⟩
theorem El:au ["self","name","word","place"] ["self","name","word","place"] (aa cg):=⟨rfl,rfl,rfl,by symm,rfl,by symm,by symm⟩
theorem Gj:au ["self"] ["self"] (aa cW):=⟨rfl,rfl,rfl,by symm,rfl,by symm,by symm⟩
theorem kI:au ["self","kinds","kind","answer"] ["self","kinds"] (aa cj):=⟨rfl,rfl,rfl,by symm,rfl,by symm,by symm⟩
theorem IV:au ["self","look"] ["self","look"] (aa dD):=⟨rfl,rfl,rfl,by symm,rfl,by symm,by symm⟩
theorem tK:au ["self","name","how","number"] ["self","name","how","number"] (aa aZ):=⟨rfl,rfl,rfl,by symm,rfl,by symm,by symm⟩
theorem uX:au ["self"] ["self"] (aa bu):=⟨rfl,rfl,rfl,by symm,rfl,by symm,by symm⟩
theorem rD:au ["self","kinds"] ["self","kinds"] (aa aR):=⟨rfl,rfl,rfl,by symm,rfl,by symm,by symm⟩
theorem wG:au ["self","look"] ["self","look"] (aa bG):=⟨rfl,rfl,rfl,by symm,rfl,by symm,by symm⟩
theorem Bm:au ["self","test"] ["self","test"] (aa cu):=⟨rfl,rfl,rfl,by symm,rfl,by symm,by symm⟩
theorem Em:au ["self"] ["self"] (aa cH):=⟨rfl,rfl,rfl,by symm,rfl,by symm,by symm⟩
theorem yo:au ["self","kinds"] ["self","kinds"] (aa bN):=⟨rfl,rfl,rfl,by symm,rfl,by symm,by symm⟩
theorem tY:au ["self","look","told"] ["self","look"] (aa cX):=⟨rfl,rfl,rfl,by symm,rfl,by symm,by symm⟩
theorem Ab:au ["box","kinds","question","k","kind"] ["box","kinds","question","k"] (aa dZ):=⟨rfl,rfl,rfl,by symm,rfl,by symm,by symm⟩
theorem Od:au ["number","low"] ["number","low"] (aa fK):=⟨rfl,rfl,rfl,by symm,rfl,by symm,by symm⟩
theorem QZ:au ["atom","low"] ["atom","low"] (aa gP):=⟨rfl,rfl,rfl,by symm,rfl,by symm,by symm⟩
theorem wH:au ["self","paper","box"] ["self","paper","box"] (aa bH):=⟨rfl,rfl,rfl,by symm,rfl,by symm,by symm⟩
theorem tL:au ["self","question","thing","cut"] ["self","question","thing","cut"] (aa bc):=⟨rfl,rfl,rfl,by symm,rfl,by symm,by symm⟩
theorem rE:au ["self","sheet","span"] ["self","sheet"] (aa aU):=⟨rfl,rfl,rfl,by symm,rfl,by symm,by symm⟩
theorem En:au ["self","question","thing"] ["self","question","thing"] (aa cI):=⟨rfl,rfl,rfl,by symm,rfl,by symm,by symm⟩
theorem uY:au ["self","name","thing","together","low","high","times","question","span","ends"] ["self","name","thing"] (aa bw):=⟨rfl,rfl,rfl,by symm,rfl,by symm,by symm⟩
theorem gr:au ["self","saying","thing","settled","look","told"] ["self","saying","thing"] (aa aK):=⟨rfl,rfl,rfl,by symm,rfl,by symm,by symm⟩
theorem kW:au ["self","atom","thing","low"] ["self","atom","thing"] (aa bf):=⟨rfl,rfl,rfl,by symm,rfl,by symm,by symm⟩
theorem Ac:au ["paper","box","going"] ["paper","box"] (aa d7):=⟨rfl,rfl,rfl,by symm,rfl,by symm,by symm⟩
theorem wI:au ["log","box","kinds","asked"] ["log","box","kinds"] (aa dF):=⟨rfl,rfl,rfl,by symm,rfl,by symm,by symm⟩
theorem Ad:au ["box","question","k","span","part"] ["box","question","k","span"] (aa d8):=⟨rfl,rfl,rfl,by symm,rfl,by symm,by symm⟩
theorem Ae:au ["box","kinds","question","k","cut","span"] ["box","kinds","question","k","cut"] (aa d9):=⟨rfl,rfl,rfl,by symm,rfl,by symm,by symm⟩
theorem iZ:au ["paper","most","fixed","kinds","boxes","nodes","splits","box","told","split"] ["paper","most","fixed"] (aa jF):=⟨rfl,rfl,rfl,by symm,rfl,by symm,by symm⟩
theorem Ld:au ["_law_script","_law_k"] ["_law_script","_law_k"] (aa eE):=⟨rfl,rfl,rfl,by symm,rfl,by symm,by symm⟩
theorem nQ:au ["_law_script","_law_k","_law_some","_law_pad","_law_middle"] ["_law_script","_law_k"] (aa eF):=⟨rfl,rfl,rfl,by symm,rfl,by symm,by symm⟩
theorem Af:au ["_law_cell_here","_law_low"] ["_law_cell_here"] (aa eG):=⟨rfl,rfl,rfl,by symm,rfl,by symm,by symm⟩
theorem Gk:au ["_law_kind_here"] ["_law_kind_here"] (aa cY):=⟨rfl,rfl,rfl,by symm,rfl,by symm,by symm⟩
theorem IW:au ["_law_how","_law_low","_law_high","_law_number"] ["_law_how","_law_low","_law_high","_law_number"] (aa dG):=⟨rfl,rfl,rfl,by symm,rfl,by symm,by symm⟩
theorem Oe:au ["_law_how","_law_low","_law_number"] ["_law_how","_law_low","_law_number"] (aa fL):=⟨rfl,rfl,rfl,by symm,rfl,by symm,by symm⟩
theorem wJ:au ["_law_found","_law_due","_law_k"] ["_law_found","_law_due"] (aa dH):=⟨rfl,rfl,rfl,by symm,rfl,by symm,by symm⟩
theorem pZ:au ["_law_script","_law_kind_here","_law_first","_law_wide"] ["_law_script","_law_kind_here"] (aa dI):=⟨rfl,rfl,rfl,by symm,rfl,by symm,by symm⟩
theorem rF:au ["_law_script","_law_kind_here","_law_low","_law_high","_law_cell_here","_law_number"] ["_law_script","_law_kind_here","_law_low","_law_high"] (aa eN):=⟨rfl,rfl,rfl,by symm,rfl,by symm,by symm⟩
theorem jK:au ["_law_script","_law_name_here","_law_kind_here","_law_atom_here","_law_said"] ["_law_script","_law_name_here","_law_kind_here","_law_atom_here"] (aa cZ):=⟨rfl,rfl,rfl,by symm,rfl,by symm,by symm⟩
theorem rG:au ["_law_names","_law_known","_law_denied","_law_low","_law_high","_law_log","_law_ranges"] ["_law_names","_law_known","_law_denied","_law_low","_law_high"] (aa eO):=⟨rfl,rfl,rfl,by symm,rfl,by symm,by symm⟩
theorem di:au ["_law_names","_law_atom_here","_law_denied","_law_span","_law_most","_law_spans","_law_nodes_here","_law_splits","_law_low","_law_high","_law_known","_law_cut_here"] ["_law_names","_law_atom_here","_law_denied","_law_span","_law_most"] (aa dJ):=⟨rfl,rfl,rfl,by symm,rfl,by symm,by symm⟩
theorem fB:au ["_law_script","_law_names","_law_kind_here","_law_low","_law_high","_law_atom_here","_law_said","_law_denied","_law_rows","_law_paper","_law_known","_law_leaf_here","_law_split","_law_box","_law_found","_law_most","_law_due","_law_nodes_here"] ["_law_script"] (aa vM):=⟨rfl,rfl,rfl,by symm,rfl,by symm,by symm⟩
seal PE PT PW PA PS o6 PG yz PI PO mY jc Fe cQ mZ vf vq PC zm
local macro_rules | `(tactic| walk_at "rd1") => `(tactic| first
 | (refine And.intro rfl ?_)
 | (refine And.intro (by assumption) ?_)
 | (refine And.intro (fun _ e=>e) ?_)
 | (refine And.intro (aD.str _) ?_) | (refine And.intro (aD.int _) ?_) | (refine And.intro (aD.bl _) ?_) | (refine And.intro aD.non ?_)
 | (refine bT ?_) | (refine aN ?_)
 | (apply Exists.intro))
local macro_rules | `(tactic| walk_at "rd") => `(tactic| repeat (walk_at "rd1"))
theorem len_app (x y:Str):(x++y).length=x.length+y.length:=by rw [lM,wX,List.length_append,← lM,← lM]
theorem p6 {t u:TS}{D:Ends}{σ:St}{H:Hp} (R:St→Hp→Prop) (hk:∀ σ' H',R σ' H'→u D σ' H') (hm:∀ N:St→Hp→Prop,(∀ σ' H',R σ' H'→N σ' H')→t { D with nx:=N } σ H):Wh t u D σ H:=hm _ hk
theorem Ur (i:Int) (h0:0≤i) (h1:i<26):jD ("abcdefghijklmnopqrstuvwxyz":Str).cps.toList i=some (97+i.toNat):=by
 have e:("abcdefghijklmnopqrstuvwxyz":Str).cps.toList=(List.range 26).map (97+·):=by symm
 obtain⟨c,hc,hc2⟩:=vC (l:=("abcdefghijklmnopqrstuvwxyz":Str).cps.toList) h0 (by rw [e];simpa using h1)
 rw [hc]
 rw [e,List.getElem?_map,List.getElem?_range (by omega)] at hc2
 exact hc2.symm
theorem ad3 {x:Int} (h0:0≤x) (h:x<2 ^ 63):ib x≤60000000:=Nat.le_trans (R8 (by omega) (by omega)) (by decide)
theorem ibc {x:Int} (h:x.natAbs<2 ^ 256):ib x≤60000000:=Nat.le_trans (Z7 (m:=256) h) (by decide)
theorem ad4 {c:Bool}{A B:Prop} (h:c=false) (k:B):if c=true then A else B:=by rw [if_neg (by rw [h];decide)];exact k
theorem Xm {σ:St}{H:Hp}{a b:Hp→Prop} (h:a H):YH σ H (fun c H3=>if c=true then a H3 else b H3):=by
 show if true=true then a H else b H
 exact bT h
theorem zJ {α β:Type}{R R':α→β→Prop}{as:List α}{bs:List β} (h:Paired R as bs) (f:∀ a b,R a b→R' a b):Paired R' as bs:=by
 induction h with
 | nil=>exact .nil
 | cons r _ ih=>exact .cons (f _ _ r) ih
theorem xJ {α β:Type}{R:α→β→Prop}{as as':List α}{bs bs':List β} (h:Paired R as bs) (k:Paired R as' bs'):Paired R (as++as') (bs++bs'):=by
 induction h with
 | nil=>exact k
 | cons r _ ih=>exact .cons r ih
theorem yO {α β:Type}{R:α→β→Prop}:∀ {as:List α}{bs:List β}{i:Nat}{a:α},Paired R as bs→as[i]? = some a→∃ b,bs[i]? = some b∧R a b
 | _,_,0,_,.cons h _,e=>by cases e;exact⟨_,rfl,h⟩
 | _,_,i+1,_,.cons _ t,e=>yO (i:=i) t e
theorem uZ {α β:Type}{R:α→β→Prop}:∀ {as:List α}{bs:List β}{i:Nat}{b:β},Paired R as bs→bs[i]? = some b→∃ a,as[i]? = some a∧R a b
 | _,_,0,_,.cons h _,e=>by cases e;exact⟨_,rfl,h⟩
 | _,_,i+1,_,.cons _ t,e=>uZ (i:=i) t e
theorem zX {α β:Type}{R:α→β→Prop}{as:List α}{bs:List β} (h:Paired R as bs):as.length=bs.length:=Paired.length h
theorem take_snoc {α:Type}{l:List α}{i:Nat}{x:α} (h:l[i]? = some x):l.take (i+1)=l.take i++[x]:=by rw [List.take_succ,h];rfl
abbrev E40:Int:=10000000000000000000000000000000000000000
theorem p40:(10:Int) ^ (40:Int).toNat=E40:=by symm
def eV (ns:List Int) (k:Nat):Int:=if k<ns.length then ns.getD k 0 % E40 else 0
theorem Xn (ns:List Int) (k:Nat):0≤eV ns k∧eV ns k<E40:=by
 unfold eV
 split
 · exact⟨Int.emod_nonneg _ (by decide),Int.emod_lt_of_pos _ (by decide)⟩
 · exact⟨by decide,by decide⟩
def aar (K:W.Frag):Sp:=fun vs H Q _=>∃ (a:Addr) (ns:List Int) (k:Nat),vs=[.ref a,.int k]∧cB K H a (ns.map V.int)∧Q (.int (eV ns k)) H
section
variable {P:Program}{w:World}{K:W.Frag}{mg:Str→Option Value}{base:Heap}{A:cT}
theorem jU (T:Txt K mg A):aV P w K mg base bR 1 A.pN A.uw ["_law_script","_law_k"] (aar K):=by
 refine T.Nu.ok Ld (fun vs H Q E h=>?_) (fun cdv A0 outer s H vs Q E hr h=>?_)
 · obtain⟨a,ns,k,rfl,_⟩:=h
   rfl
 obtain⟨a,ns,k,rfl,hS,q⟩:=h
 refine⟨_,(zC (yB (zL m5 (pv 1) (zR zZ (by rfl) T.jf PySem.boot_len (zA (pv 0) zD)) (zO _)) (zE (zK (zU yT (zW bQ (pv 0) (pv 1) (fun _ _=>rfl)) (zU BP zF zF)))) zP)
     (zE (zK zF))),?_⟩
 have eL:((ns.map V.int).length:Nat)=ns.length:=List.length_map ..
 refine⟨_,rfl,_,rfl,a,_,rfl,.inl hS,_,_,rfl,rfl,_,rfl,?_⟩
 refine lq (fun c=>?_) (fun c=>?_)
 · have c':(k:Int)<((ns.map V.int).length:Nat):=of_decide_eq_true c
   have c2:k<ns.length:=by rw [eL] at c';omega
   obtain⟨v,hv,hv2⟩:=vC (l:=ns.map V.int) (i:=(k:Int)) (by omega) c'
   obtain⟨n,hn,rfl⟩:=rW hv2
   have e:eV ns k=n % E40:=by
     unfold eV
     rw [if_pos c2,List.getD_eq_getElem?_getD,show ns[k]? = some n from hn]
     rfl
   rw [e] at q
   refine⟨_,rfl,_,rfl,a,_,_,_,rfl,rfl,hS,hv,_,_,rfl,rfl,⟨by decide,by decide,by symm⟩,_,_,rfl,rfl,?_,?_⟩
   · show (0:Int)<(10:Int) ^ (40:Int).toNat
     rw [p40];decide
   · show Q (.int (n % (10:Int) ^ (40:Int).toNat)) H
     rw [p40];exact q
 · have c2:¬ k<ns.length:=fun z=>c (decide_eq_true (by rw [eL];omega))
   unfold eV at q
   rw [if_neg c2] at q
   exact q
end
def YW (p:Int) (k:Nat):Str:=S (lN [120] (p % 4).toNat)++(S [97+(((k:Int)*5+p / 20) % 26).toNat]++S [97+k])++S (lN [121] (p / 4 % 5).toNat)
theorem Us (l:List Nat) (p:Int) (m:Nat) (h:p.toNat≤m) (hl:l.length=1):(lN l p.toNat).length≤m:=by rw [Cr,hl];omega
theorem YX (p:Int) (k:Nat):cd (YW p k)=lN [120] (p % 4).toNat++([97+(((k:Int)*5+p / 20) % 26).toNat]++[97+k])++lN [121] (p / 4 % 5).toNat:=by
 unfold YW
 rw [wX,wX,wX]
 rfl
theorem aas {p:Int}{j k:Nat} (e:YW p j=YW p k):j=k:=by
 have e2:=congrArg cd e
 rw [YX,YX,List.append_assoc,List.append_assoc,List.append_assoc,List.append_assoc] at e2
 have e3:=List.append_cancel_left e2
 have e4:=(List.cons.inj (List.cons.inj e3).2).1
 omega
def aat (K:W.Frag):Sp:=fun vs H Q _=>∃ (a:Addr) (ns:List Int) (k:Nat),vs=[.ref a,.int k]∧cB K H a (ns.map V.int)∧k<26∧Q (.str (YW (eV ns 0) k)) H
section
variable {P:Program}{w:World}{K:W.Frag}{mg:Str→Option Value}{base:Heap}{A:cT}
theorem Le (T:Txt K mg A):aV P w K mg base bR 2 A.pO A.ux ["_law_script","_law_k"] (aat K):=by
 have du:=jU (P:=P) (w:=w) (base:=base) T
 refine T.Nv.ok nQ (fun vs H Q E h=>?_) (fun cdv A0 outer s H vs Q E hr h=>?_)
 · obtain⟨a,ns,k,rfl,_⟩:=h
   rfl
 obtain⟨a,ns,k,rfl,hS,hk,q⟩:=h
 refine⟨_,(zC (zQ (i:=2) nQ.nd rfl ‹0› zS)
     (zC (zQ (i:=3) nQ.nd rfl ‹0› (zT du ‹hr› rfl T.gh T.gf T.gb .nil zN (zA (pv 0) (zA zF zD))))
     (zC (zQ (i:=4) nQ.nd rfl ‹0› (zU tZ (zW RN (pv 2) (zU yT (zU yU (zU HH (pv 1) zF) (zU jC (pv 3) zF)) zF) (fun _ _=>rfl)) (zW RN (pv 2) (pv 1) (fun _ _=>rfl))))
     (zE (zK (zU tZ (zU tZ (zU Cu zS (zU yT (pv 3) zF)) (pv 4)) (zU Cu zS (zU yT (zU jC (pv 3) zF) zF)))))))),?_⟩
 refine⟨_,rfl,a,ns,0,rfl,hS,?_⟩
 generalize eV ns 0=p at q
 have a0:=Int.emod_nonneg p (b:=4) (by decide)
 have a1:=Int.emod_lt_of_pos p (b:=4) (by decide)
 have b0:=Int.emod_nonneg (p / 4) (b:=5) (by decide)
 have b1:=Int.emod_lt_of_pos (p / 4) (b:=5) (by decide)
 have d0:=Int.emod_nonneg ((k:Int)*5+p / 20) (b:=26) (by decide)
 have d1:=Int.emod_lt_of_pos ((k:Int)*5+p / 20) (b:=26) (by decide)
 have r1:=Us [120] (p % 4) 4 (by omega) rfl
 have r2:=Us [121] (p / 4 % 5) 5 (by omega) rfl
 have l1:(S (lN (cd ‹"x"›) (p % 4).toNat)).length≤4:=by rw [lM,Z6];exact r1
 have l2:(S (lN (cd ‹"y"›) (p / 4 % 5).toNat)).length≤5:=by rw [lM,Z6];exact r2
 have lx:‹"x"›.length=1:=by symm
 have ly:‹"y"›.length=1:=by symm
 have lz:("abcdefghijklmnopqrstuvwxyz":Str).length=26:=by symm
 have c0:=Ur (((k:Int)*5+p / 20) % 26) d0 d1
 have c1:=Ur (k:Int) (by omega) (by omega)
 have ls:∀ c:Nat,(⟨#[c]⟩:Str).length=1:=fun c=>rfl
 refine⟨_,rfl,_,rfl,_,_,rfl,rfl,⟨ad3 (by omega) (by omega),ad3 (by decide) (by decide)⟩,_,rfl,_,_,rfl,rfl,⟨by decide,by decide⟩,_,_,rfl,rfl,_,_,rfl,rfl,(by show (0:Int)<26;decide),_,_,_,rfl,rfl,(by rw [lz,sizeLine_eq];omega),c0,?_⟩
 refine⟨_,rfl,_,rfl,_,_,_,rfl,rfl,(by rw [lz,sizeLine_eq];omega),c1,_,_,rfl,rfl,(by rw [sizeLine_eq];rw [ls,ls];decide),?_⟩
 have e1:(97+(k:Int).toNat)=97+k:=by omega
 rw [e1]
 generalize hc:97+(((k:Int)*5+p / 20) % 26).toNat=cc
 have q':Q (.str (S (lN [120] (p % 4).toNat)++(S [cc]++S [97+k])++S (lN [121] (p / 4 % 5).toNat))) H:=by rw [← hc];exact q
 refine⟨_,rfl,_,_,rfl,rfl,(by show (0:Int)<4;decide),_,_,rfl,rfl,a0,(by omega),(by rw [lx];omega),(by rw [lx];omega),?_⟩
 refine⟨_,rfl,_,_,rfl,rfl,(by rw [sizeLine_eq,len_app,ls,ls];omega),?_⟩
 refine⟨_,rfl,_,_,rfl,rfl,⟨by decide,by decide⟩,_,_,rfl,rfl,(by show (0:Int)<5;decide),_,_,rfl,rfl,b0,(by omega),(by rw [ly];omega),(by rw [ly];omega),?_⟩
 exact⟨_,_,rfl,rfl,(by rw [sizeLine_eq,len_app,len_app,ls,ls];omega),q'⟩
end
theorem jV {H:Hp}{a b:Addr}{o:HO} (h:upd H a o b=none):b≠a∧H b=none:=by
 by_cases e:b=a
 · subst e;rw [zB] at h;cases h
 · exact⟨e,by rw [zI e] at h;exact h⟩
theorem yK {H H':Hp} (s:aB H H') {b:Addr} (h:H' b=none):H b=none:=by
 cases e:H b with
 | none=>rfl
 | some o=>rw [s b o e] at h;cases h
def Fr (M:List Addr) (H H':Hp):Prop:=∀ b o,H b=some o→b∉M→H' b=some o
theorem Fr.of {M:List Addr}{H H':Hp} (s:aB H H'):Fr M H H':=fun b o h _=>s b o h
theorem Fr.trans {M:List Addr}{H H' Pn:Hp} (a:Fr M H H') (b:Fr M H' Pn):Fr M H Pn:=fun x o h n=>b x o (a x o h n) n
theorem Fr.upd {M:List Addr}{H H':Hp} (a:Fr M H H') {m:Addr} (h:m∈M) (o:HO):Fr M H (upd H' m o):=fun x u hx n=>by
 rw [zI (fun e=>n (by rw [e];exact h))];exact a x u hx n
theorem Fr.new {M:List Addr}{H H':Hp} (a:Fr M H H') {m:Addr} (h:H' m=none) (o:HO):Fr M H (L2.upd H' m o):=fun x u hx n=>by
 have:=a x u hx n
 rw [zI (zH this h)];exact this
theorem Fr.more {M M':List Addr}{H H':Hp} (a:Fr M H H') (h:∀ m∈M,m∈M'):Fr M' H H':=fun x u hx n=>a x u hx fun e=>n (h x e)
theorem Ja {M:List Addr}{H H':Hp} (a:Fr M H H') {b:Addr} (n:b∉M) (h:H' b=none):H b=none:=by
 cases e:H b with
 | none=>rfl
 | some o=>rw [a b o e n] at h;cases h
theorem p7 {x a:Addr} (h:x≠a):x∉[a]:=fun e=>h (List.mem_singleton.mp e)
abbrev Gm (A:cT) (dx:Addr) (u1 u2 u3:V):HO:=.ins A.oU dx [("name",u1),("kind",u2),("when",u3)]
abbrev oSh (A:cT) (dx:Addr) (u1 u2:V) (q1 q2:Addr):HO:=.ins A.jH dx [("name",u1),("each",u2),("rows",.ref q1),("ways",.ref q2)]
abbrev oPa (A:cT) (dx:Addr) (u1:V) (q1 q2:Addr):HO:=.ins A.gW dx [("name",u1),("sheets",.ref q1),("totals",.ref q2)]
def aau (K:W.Frag):Sp:=fun vs H Q _=>∃ p C dx u1,vs=[.ref p,u1]∧H p=some (.ins C dx [])∧Ak K C∧aJ K C "name"∧Q .non (upd H p (.ins C dx [("name",u1)]))
def aav (A:cT):Sp:=fun vs H Q _=>∃ p dx u1 u2 u3,vs=[.ref p,u1,u2,u3]∧H p=some (.ins A.oU dx [])∧Q .non (upd H p (Gm A dx u1 u2 u3))
def Ut (A:cT) (K:W.Frag):Sp:=fun vs H Q _=>∃ p dx u1 u2 l1 l2 xs ys,vs=[.ref p,u1,u2,.ref l1,.ref l2]∧H p=some (.ins A.jH dx [])∧H l1=some (.lst xs)∧H l2=some (.lst ys) ∧
 ∀ q1 q2 H',q1≠q2→H q1=none→H q2=none→Fr [p] H H'→H' p=some (oSh A dx u1 u2 q1 q2)→H' q1=some (.lst xs)→H' q2=some (.lst ys)→Q .non H'
def Uu (A:cT) (K:W.Frag):Sp:=fun vs H Q _=>∃ p dx u1 l1 l2 xs,vs=[.ref p,u1,.ref l1,.ref l2]∧H p=some (.ins A.gW dx [])∧H l1=some (.lst xs)∧H l2=some (.lst []) ∧
 ∀ q1 q2 H',Fr [p] H H'→H' p=some (oPa A dx u1 q1 q2)→H' q1=some (.lst xs)→H' q2=some (.lst [])→Q .non H'
def aaw (K:W.Frag):Sp:=fun vs H Q _=>∃ p C dx lo hi,vs=[.ref p,lo,hi]∧H p=some (.ins C dx [])∧Ak K C∧aJ K C "low"∧aJ K C "high"∧Q .non (upd H p (.ins C dx [("low",lo),("high",hi)]))
def aax (A:cT):Sp:=fun vs H Q _=>∃ p dx,vs=[.ref p]∧H p=some (.ins A.bI dx [])∧Q .non (upd H p (.ins A.bI dx [("low",.int 0),("high",.int 1)]))
def ad5 (A:cT):Sp:=fun vs H Q _=>∃ p dx u1 u2 u3,vs=[.ref p,u1,u2,u3]∧H p=some (.ins A.oV dx [])∧Q .non (upd H p (.ins A.oV dx [("name",u1),("word",u2),("place",u3)]))
def ad6 (A:cT):Sp:=fun vs H Q _=>∃ p dx u1,vs=[.ref p,u1]∧H p=some (.ins A.qe dx [])∧Q .non (upd H p (.ins A.qe dx [("test",u1)]))
def ad7 (A:cT):Sp:=fun vs H Q _=>∃ p dx u1 u2 u3,vs=[.ref p,u1,u2,u3]∧H p=some (.ins A.cA dx [])∧Q .non (upd H p (.ins A.cA dx [("name",u1),("how",u2),("number",u3)]))
abbrev YN:List (Str × Bool):=[("yes",true),("no",false)]
def bv:Option Bool→V
 | none=>.non
 | some b=>.bl b
def rkB (b:Bool):Int:=if b=true then 1 else 0
def aay:Sp:=fun vs H Q _=>∃ (p:V) (o:Option Bool),vs=[p,bv o]∧Q (.bl o.isSome) H
def aaz:Sp:=fun vs H Q _=>∃ (p:V) (z:Str),vs=[p,.str z]∧Q (Cv YN z) H
def Xo:Sp:=fun vs H Q _=>∃ (p:V) (b:Bool),vs=[p,.bl b]∧Q (.int (if b=true then 1 else 0)) H
theorem aaA {ws:List Str}{t:Str}{j:Nat} (hd:ws.Nodup) (h:ws[j]? = some t):YG (V.str t) (ws.map V.str) j:=by
 refine⟨.str t,by rw [List.getElem?_map,h];rfl,SQ rfl,fun m z hm hz=>?_⟩
 obtain⟨y',hy',rfl⟩:=rW hz
 show (y' == t)=false
 rw [beq_eq_false_iff_ne]
 intro e
 subst e
 obtain⟨l1,e1⟩:=List.getElem?_eq_some_iff.mp h
 obtain⟨l2,e2⟩:=List.getElem?_eq_some_iff.mp hy'
 exact (List.pairwise_iff_getElem.mp hd) m j l2 l1 hm (e2.trans e1.symm)
theorem Hj (ws:List Str):(ws.map V.str).all iG=true:=by rw [List.all_map,List.all_eq_true];intro _ _;rfl
theorem Lf (z:Str) (ws:List Str):inV (.str z) (ws.map V.str)=decide (z∈ws):=by
 unfold inV
 rw [List.any_map,Bool.eq_iff_iff,List.any_eq_true,decide_eq_true_iff]
 constructor
 · rintro ⟨y,hy,e⟩
   have:y=z:=eq_of_beq e
   rw [← this];exact hy
 · intro h;exact⟨z,h,by show (z == z)=true;exact beq_self_eq_true z⟩
def Uv (A:cT):Sp:=fun vs H Q _=>∃ p dx u,vs=[.ref p,u]∧H p=some (.ins A.dh dx [])∧Q .non (upd H p (.ins A.dh dx [("low",.int 0),("high",u)]))
def Xp (A:cT):Sp:=fun vs H Q _=>∃ (p dx l:Addr) (ws:List Str),vs=[.ref p,.ref l]∧H p=some (.ins A.cN dx [])∧H l=some (.lst (ws.map V.str))∧ws.length≤100∧∀ q H',Fr [p] H H'→H' p=some (.ins A.cN dx [("low",.int 0),("high",.int (ws.length - 1)),("words",.ref q)])→H' q=some (.lst (ws.map V.str))→Q .non H'
def aaB (A:cT):Sp:=fun vs H Q _=>∃ (k dk qa:Addr) (ws:List Str) (hi:V) (j:Nat) (z:Str),vs=[.ref k,.str z]∧H k=some (.ins A.cN dk [("low",.int 0),("high",hi),("words",.ref qa)])∧H qa=some (.lst (ws.map V.str))∧ws.Nodup∧ws[j]? = some z∧Q (.bl true) H
def Xq (A:cT):Sp:=fun vs H Q _=>∃ (k dk qa:Addr) (ws:List Str) (hi:V) (j:Nat) (z:Str),vs=[.ref k,.str z]∧H k=some (.ins A.cN dk [("low",.int 0),("high",hi),("words",.ref qa)])∧H qa=some (.lst (ws.map V.str))∧ws.Nodup∧ws[j]? = some z∧Q (.int (j:Nat)) H
section
variable {P:Program}{w:World}{K:W.Frag}{mg:Str→Option Value}{base:Heap}{A:cT}
theorem lF (T:Txt K mg A):aV P w K mg base bR 1 A.fG A.j5 ["self","low","high"] (aaw K):=by
 refine T.An.ok yl (fun vs H Q E h=>?_) (fun cdv A0 outer s H vs Q E hr h=>?_)
 · obtain⟨p,C,dx,lo,hi,rfl,_⟩:=h
   rfl
 obtain⟨p,C,dx,lo,hi,rfl,hp,cl,n1,n2,q⟩:=h
 refine⟨_,(zC (yG (pv 0) (pv 1) rfl)
     (zE (yG (pv 0) (pv 2) rfl))),?_⟩
 refine⟨_,rfl,_,rfl,p,C,dx,_,rfl,hp,cl,n1,by decide,?_⟩
 refine⟨_,rfl,_,rfl,p,C,dx,_,rfl,zB,cl,n2,(by show 1<1000;decide),?_⟩
 rw [yD]
 exact q
theorem Lg (T:Txt K mg A):aV P w K mg base bR 1 A.lV A.lW ["self","name"] (aau K):=by
 refine T.CZ.ok Bh (fun vs H Q E h=>?_) (fun cdv A0 outer s H vs Q E hr h=>?_)
 · obtain⟨p,C,dx,u1,rfl,_⟩:=h
   rfl
 obtain⟨p,C,dx,u1,rfl,hp,cl,na,q⟩:=h
 refine⟨_,(zE (yG (pv 0) (pv 1) rfl)),?_⟩
 exact⟨_,rfl,_,rfl,p,_,dx,_,rfl,hp,cl,na,by decide,q⟩
theorem Lh (T:Txt K mg A):aV P w K mg base bR 3 A.lX A.iH ["self","name","kind","when"] (aav A):=by
 have Eo:=Lg (P:=P) (w:=w) (base:=base) T
 refine T.Dd.ok Bj (fun vs H Q E h=>?_) (fun cdv A0 outer s H vs Q E hr h=>?_)
 · obtain⟨p,dx,u1,u2,u3,rfl,_⟩:=h
   rfl
 obtain⟨p,dx,u1,u2,u3,rfl,hp,q⟩:=h
 refine⟨_,(zC (yE (qD T.La Eo ‹hr› rfl T.ad1 T.Dc zN (zA (pv 0) (zA (pv 1) zD))))
     (zC (yG (pv 0) (pv 2) rfl)
     (zE (yG (pv 0) (pv 3) rfl)))),?_⟩
 refine⟨_,rfl,_,rfl,p,_,dx,u1,rfl,hp,T.qZ,T.nM,?_⟩
 refine⟨_,rfl,_,rfl,p,_,dx,_,rfl,zB,T.qZ,T.z9,(by show 1<1000;decide),?_⟩
 refine⟨_,rfl,_,rfl,p,_,dx,_,rfl,zB,T.qZ,T.Aa,(by show 2<1000;decide),?_⟩
 rw [yD,yD]
 exact q
theorem Gn (T:Txt K mg A):aV P w K mg base bR 1 A.jn A.jo ["self","name","each","rows","ways"] (Ut A K):=by
 refine T.xq.ok wC (fun vs H Q E h=>?_) (fun cdv A0 outer s H vs Q E hr h=>?_)
 · obtain⟨p,dx,u1,u2,l1,l2,xs,ys,rfl,_⟩:=h
   rfl
 obtain⟨p,dx,u1,u2,l1,l2,xs,ys,rfl,hp,h1,h2,q⟩:=h
 refine⟨_,(zC (yG (pv 0) (pv 1) rfl)
     (zC (yG (pv 0) (pv 2) rfl)
     (zC (yG (pv 0) (xN xQ (by rfl) T.pX Bt.list (zA (pv 3) zD)) rfl)
     (zE (yG (pv 0) (xN xQ (by rfl) T.pX Bt.list (zA (pv 4) zD)) rfl))))),?_⟩
 have n1:l1≠p:=yJ h1 hp (by intro z;cases z)
 have n2:l2≠p:=yJ h2 hp (by intro z;cases z)
 refine⟨_,rfl,_,rfl,p,_,dx,_,rfl,hp,T.gQ,T.Ge,by decide,?_⟩
 refine⟨_,rfl,_,rfl,p,_,dx,_,rfl,zB,T.gQ,T.oG,(by show 1<1000;decide),?_⟩
 rw [yD]
 refine⟨_,rfl,l1,xs,rfl,.inl (cB.of (by rw [zI n1];exact h1)),fun q1 hq1=>?_⟩
 obtain⟨e1,f1⟩:=jV hq1
 refine⟨_,rfl,p,_,dx,_,rfl,(by rw [zI (Ne.symm e1)];exact zB),T.gQ,T.jJ,(by show 2<1000;decide),?_⟩
 refine⟨_,rfl,l2,ys,rfl,.inl (cB.of (by rw [zI n2,zI (zH h2 f1),zI n2];exact h2)),fun q2 hq2=>?_⟩
 obtain⟨e2,g2⟩:=jV hq2
 obtain⟨e3,g3⟩:=jV g2
 obtain⟨e4,f2⟩:=jV g3
 refine⟨_,rfl,p,_,dx,_,rfl,(by rw [zI (Ne.symm e2)];exact zB),T.gQ,T.tX,(by show 3<1000;decide),?_⟩
 refine q q1 q2 _ (Ne.symm e3) f1 f2 (fun b o hb hn=>?_) zB ?_ ?_
 · have nb:b≠p:=fun e=>hn (by rw [e];exact List.mem_singleton.mpr rfl)
   rw [zI nb,zI (zH hb f2),zI nb,zI (zH hb f1),zI nb];exact hb
 · rw [zI e1,zI (Ne.symm e3),zI e1];exact zB
 · rw [zI e2];exact zB
theorem Gp (T:Txt K mg A):aV P w K mg base bR 1 A.jq A.jr ["self","name","sheets","totals"] (Uu A K):=by
 refine T.xu.ok wD (fun vs H Q E h=>?_) (fun cdv A0 outer s H vs Q E hr h=>?_)
 · obtain⟨p,dx,u1,l1,l2,xs,rfl,_⟩:=h
   rfl
 obtain⟨p,dx,u1,l1,l2,xs,rfl,hp,h1,h2,q⟩:=h
 refine⟨_,(zC (yG (pv 0) (pv 1) rfl)
     (zC (yG (pv 0) (xN xQ (by rfl) T.pX Bt.list (zA (pv 2) zD)) rfl)
     (zE (yG (pv 0) (Cy (ue (lG (x:="total") (M:=["self","name","sheets","totals"]) rfl (by rfl)) (by rfl) (by symm)) rfl (xH (pv 3)) (fun _ _ _ _=>Cw) (fun _ _ _ _=>HR (by exact (yA (zA (pv 0) (zA (xN xQ (by rfl) T.pX Bt.list (zA (pv 1) zD)) zD)))) (by dsimp only [fu] <;> rfl))) rfl)))),?_⟩
 have n1:l1≠p:=yJ h1 hp (by intro z;cases z)
 have n2:l2≠p:=yJ h2 hp (by intro z;cases z)
 refine⟨_,rfl,_,rfl,p,_,dx,_,rfl,hp,T.iU,T.Gf,by decide,?_⟩
 refine⟨_,rfl,l1,xs,rfl,.inl (cB.of (by rw [zI n1];exact h1)),fun q1 hq1=>?_⟩
 obtain⟨e1,f1⟩:=jV hq1
 refine⟨_,rfl,p,_,dx,_,rfl,(by rw [zI (Ne.symm e1)];exact zB),T.iU,T.dR,(by show 1<1000;decide),?_⟩
 generalize hG:upd (upd (upd H p (.ins A.gW dx (ph ‹"name"› u1 []))) q1 (.lst xs)) p (.ins A.gW dx (ph ‹"sheets"› (V.ref q1) (ph ‹"name"› u1 [])))=H1
 have F1:Fr [p] H H1:=by rw [← hG];exact (((Fr.of (aB.refl _)).upd (List.mem_singleton.mpr rfl) _).new hq1 _).upd (List.mem_singleton.mpr rfl) _
 have hp1:H1 p=some (.ins A.gW dx [("name",u1),("sheets",.ref q1)]):=by rw [← hG];exact zB
 have apP:H1 q1=some (.lst xs):=by rw [← hG,zI e1];exact zB
 have hl2:H1 l2=some (.lst []):=F1 _ _ h2 (p7 n2)
 refine⟨_,rfl,l2,rfl,⟨_,cB.of hl2⟩,?_⟩
 refine uf (xs:=[]) (Nat.zero_le _) (fun i zs H'=>H1=H'∧zs=[]) ⟨rfl,rfl⟩ (fun i zs H' hw=>by obtain⟨rfl,_⟩:=hw;exact cB.of hl2) (fun i x zs H' hx hlen hw=>by simp at hx) (fun zs H' hw p2 hp2=>?_)
 obtain⟨rfl,rfl⟩:=hw
 have s2:=zG hp2 (.lst [])
 have np2:p2≠p:=fun e=>by rw [e,hp1] at hp2;cases hp2
 refine⟨_,rfl,p,_,dx,_,rfl,s2 _ _ hp1,T.iU,T.qg,(by show 2<1000;decide),?_⟩
 have F2:Fr [p] H1 (upd (upd H1 p2 (.lst [])) p (oPa A dx u1 q1 p2)):=(Fr.of s2).upd (List.mem_singleton.mpr rfl) _
 refine q q1 p2 _ (F1.trans F2) zB (F2 _ _ apP (p7 e1)) ?_
 show (upd (upd H1 p2 (.lst [])) p (oPa A dx u1 q1 p2)) p2=_
 rw [zI np2];exact zB
theorem Ag (T:Txt K mg A):aV P w K mg base bR 3 A.jj A.jk ["self"] (aax A):=by
 have cL:=lF (P:=P) (w:=w) (base:=base) T
 refine T.xj.ok wA (fun vs H Q E h=>?_) (fun cdv A0 outer s H vs Q E hr h=>?_)
 · obtain⟨p,dx,rfl,_⟩:=h
   rfl
 obtain⟨p,dx,rfl,hp,q⟩:=h
 refine⟨_,(zE (yE (qD T.pY cL ‹hr› rfl T.N8 T.fH zN (zA (pv 0) (zA zF (zA zF zD)))))),?_⟩
 exact⟨_,rfl,p,_,dx,_,_,rfl,hp,T.qY,T.vX,T.tR,q⟩
theorem Ep (T:Txt K mg A):aV P w K mg base bR 1 A.nZ A.jG ["self","name","word","place"] (ad5 A):=by
 refine T.Fx.ok El (fun vs H Q E h=>?_) (fun cdv A0 outer s H vs Q E hr h=>?_)
 · obtain⟨p,dx,u1,u2,u3,rfl,_⟩:=h
   rfl
 obtain⟨p,dx,u1,u2,u3,rfl,hp,q⟩:=h
 refine⟨_,(zC (yG (pv 0) (pv 1) rfl)
     (zC (yG (pv 0) (pv 2) rfl)
     (zE (yG (pv 0) (pv 3) rfl)))),?_⟩
 refine⟨_,rfl,_,rfl,p,_,dx,_,rfl,hp,T.jg,T.jA,by decide,?_⟩
 refine⟨_,rfl,_,rfl,p,_,dx,_,rfl,zB,T.jg,T.mJ,(by show 1<1000;decide),?_⟩
 refine⟨_,rfl,_,rfl,p,_,dx,_,rfl,zB,T.jg,T.q9,(by show 2<1000;decide),?_⟩
 rw [yD,yD]
 exact q
theorem Er (T:Txt K mg A):aV P w K mg base bR 1 A.il A.ir ["self","name","how","number"] (ad7 A):=by
 refine T.uF.ok tK (fun vs H Q E h=>?_) (fun cdv A0 outer s H vs Q E hr h=>?_)
 · obtain⟨p,dx,u1,u2,u3,rfl,_⟩:=h
   rfl
 obtain⟨p,dx,u1,u2,u3,rfl,hp,q⟩:=h
 refine⟨_,(zC (yG (pv 0) (pv 1) rfl)
     (zC (yG (pv 0) (pv 2) rfl)
     (zE (yG (pv 0) (pv 3) rfl)))),?_⟩
 refine⟨_,rfl,_,rfl,p,_,dx,_,rfl,hp,T.aC,T.cJ,by decide,?_⟩
 refine⟨_,rfl,_,rfl,p,_,dx,_,rfl,zB,T.aC,T.dM,(by show 1<1000;decide),?_⟩
 refine⟨_,rfl,_,rfl,p,_,dx,_,rfl,zB,T.aC,T.bU,(by show 2<1000;decide),?_⟩
 rw [yD,yD]
 exact q
theorem Es (T:Txt K mg A):aV P w K mg base bR 1 A.mC A.mD ["self","test"] (ad6 A):=by
 refine T.Ds.ok Bm (fun vs H Q E h=>?_) (fun cdv A0 outer s H vs Q E hr h=>?_)
 · obtain⟨p,dx,u1,rfl,_⟩:=h
   rfl
 obtain⟨p,dx,u1,rfl,hp,q⟩:=h
 refine⟨_,(zE (yG (pv 0) (pv 1) rfl)),?_⟩
 exact⟨_,rfl,_,rfl,p,_,dx,_,rfl,hp,T.rn,T.nO,by decide,q⟩
theorem Uw (T:Txt K mg A):aV P w K mg base bR 1 A.lO A.lQ ["self","thing"] aay:=by
 refine T.CQ.ok Bf (fun vs H Q E h=>?_) (fun cdv A0 outer s H vs Q E hr h=>?_)
 · obtain⟨p,o,rfl,_⟩:=h
   rfl
 obtain⟨p,o,rfl,q⟩:=h
 cases o with
 | some b=>exact⟨_,(zE (zK (zR yQ (by rfl) T.aF Bt.isinstance (zA (pv 1) (zA (yX (v:=.ty "bool") rfl T.yd Bt.bool rfl) zD))))),_,rfl,_,_,_,_,rfl,rfl,.old (.bl _),T.nG,q⟩
 | none=>exact⟨_,(zE (zK (zR yQ (by rfl) T.aF Bt.isinstance (zA (pv 1) (zA (yX (v:=.ty "bool") rfl T.yd Bt.bool rfl) zD))))),_,rfl,_,_,_,_,rfl,rfl,.old .non,T.Bc,q⟩
theorem Xr (T:Txt K mg A):aV P w K mg base bR 1 A.gA A.gB ["self","text"] aaz:=by
 refine T.sJ.ok rA (fun vs H Q E h=>?_) (fun cdv A0 outer s H vs Q E hr h=>?_)
 · obtain⟨p,z,rfl,_⟩:=h
   rfl
 obtain⟨p,z,rfl,q⟩:=h
 exact⟨_,(zE (zK (WQ rfl T.xZ T.yc (pv 1) ⟨rfl,rfl,rfl,rfl⟩))),_,rfl,z,rfl,q⟩
theorem Ux (T:Txt K mg A):aV P w K mg base bR 1 A.lR A.lU ["self","answer"] Xo:=by
 refine T.CV.ok Bg (fun vs H Q E h=>?_) (fun cdv A0 outer s H vs Q E hr h=>?_)
 · obtain⟨p,b,rfl,_⟩:=h
   rfl
 obtain⟨p,b,rfl,q⟩:=h
 refine⟨_,(zE (zK (oK (yN (pv 1)) zF zF))),?_⟩
 cases b with
 | true=>exact⟨_,rfl,_,rfl,bT q⟩
 | false=>exact⟨_,rfl,_,rfl,aN q⟩
theorem Gq (T:Txt K mg A):aV P w K mg base bR 3 A.jl A.jm ["self","most"] (Uv A):=by
 have cL:=lF (P:=P) (w:=w) (base:=base) T
 refine T.xm.ok wB (fun vs H Q E h=>?_) (fun cdv A0 outer s H vs Q E hr h=>?_)
 · obtain⟨p,dx,u,rfl,_⟩:=h
   rfl
 obtain⟨p,dx,u,rfl,hp,q⟩:=h
 refine⟨_,(zE (yE (qD T.pY cL ‹hr› rfl T.N8 T.fH zN (zA (pv 0) (zA zF (zA (pv 1) zD)))))),?_⟩
 exact⟨_,rfl,_,rfl,p,_,dx,_,_,rfl,hp,T.K6,T.v5,T.tW,q⟩
theorem Jb (T:Txt K mg A):aV P w K mg base bR 3 A.j6 A.j7 ["self","words"] (Xp A):=by
 have cL:=lF (P:=P) (w:=w) (base:=base) T
 refine T.Ao.ok ym (fun vs H Q E h=>?_) (fun cdv A0 outer s H vs Q E hr h=>?_)
 · obtain⟨p,dx,l,ws,rfl,_⟩:=h
   rfl
 obtain⟨p,dx,l,ws,rfl,hp,hl,hz,q⟩:=h
 have nl:l≠p:=yJ hl hp (by intro z;cases z)
 have lw:(ws.map V.str).length=ws.length:=List.length_map ..
 refine⟨_,(zC (yE (qD T.pY cL ‹hr› rfl T.N8 T.fH zN (zA (pv 0) (zA zF (zA (zU o9 (zR zZ (by rfl) T.jf PySem.boot_len (zA (pv 1) zD)) zF) zD)))))
     (zE (yG (pv 0) (xN xQ (by rfl) T.pX Bt.list (zA (pv 1) zD)) rfl))),?_⟩
 refine⟨_,rfl,_,rfl,l,_,rfl,.inl (cB.of hl),_,_,rfl,rfl,p,_,dx,_,_,rfl,hp,T.nJ,T.zz,T.wg,?_⟩
 rw [lw]
 refine⟨_,rfl,l,_,rfl,.inl (cB.of (by rw [zI nl];exact hl)),fun q1 hq1=>?_⟩
 obtain⟨e1,f1⟩:=jV hq1
 refine⟨_,rfl,p,_,dx,_,rfl,(by rw [zI (Ne.symm e1)];exact zB),T.nJ,T.oF,(by show 2<1000;decide),?_⟩
 refine q q1 _ (((Fr.of (aB.refl _)).upd (List.mem_singleton.mpr rfl) _).new hq1 _ |>.upd (List.mem_singleton.mpr rfl) _) zB (by rw [zI e1];exact zB)
theorem Uy (T:Txt K mg A):aV P w K mg base bR 1 A.nT A.nU ["self","thing"] (aaB A):=by
 refine T.Fq.ok Ej (fun vs H Q E h=>?_) (fun cdv A0 outer s H vs Q E hr h=>?_)
 · obtain⟨k,dk,qa,ws,hi,j,z,rfl,_⟩:=h
   rfl
 obtain⟨k,dk,qa,ws,hi,j,z,rfl,hk,hq,hd,hz,q⟩:=h
 refine⟨_,(zE (zK (wU (zR yQ (by rfl) T.aF Bt.isinstance (zA (pv 1) (zA (yX (v:=.ty "str") rfl T.T9 Bt.str rfl) zD))) (BK (xG GK (pv 1) (zM (pv 0) rfl) (by rfl)))))),?_⟩
 refine⟨_,rfl,_,_,_,_,rfl,rfl,.old (.str _),T.ye,_,rfl,bT ?_⟩
 refine⟨_,rfl,_,rfl,k,_,dk,_,_,rfl,hk,T.nJ,T.oF,rfl,qa,_,rfl,.inl (cB.of hq),rfl,Hj _,?_⟩
 rw [Lf,decide_eq_true (List.mem_of_getElem? hz)]
 exact q
theorem Xu (T:Txt K mg A):aV P w K mg base bR 1 A.gZ A.ie ["self","text"] (fun vs H Q _=>∃ (p v:V),vs=[p,v]∧Q v H):=by
 refine T.uB.ok tG (fun vs H Q E h=>?_) (fun cdv A0 outer s H vs Q E hr h=>?_)
 · obtain⟨p,b,rfl,_⟩:=h
   rfl
 obtain⟨p,v,rfl,q⟩:=h
 exact⟨_,(zE (zK (pv 1))),_,rfl,q⟩
theorem Uz (T:Txt K mg A):aV P w K mg base bR 1 A.nW A.nY ["self","answer"] (Xq A):=by
 refine T.Fv.ok Ek (fun vs H Q E h=>?_) (fun cdv A0 outer s H vs Q E hr h=>?_)
 · obtain⟨k,dk,qa,ws,hi,j,z,rfl,_⟩:=h
   rfl
 obtain⟨k,dk,qa,ws,hi,j,z,rfl,hk,hq,hd,hz,q⟩:=h
 refine⟨_,(zE (zK (kO PySem.F.plainAttrs_list PySem.F.slot_list_index PySem.F.type_list_index G6 (zM (pv 0) rfl) (zA (pv 1) zD)))),?_⟩
 exact⟨_,rfl,k,_,dk,_,_,rfl,hk,T.nJ,T.oF,rfl,.inl ⟨rfl,_,cB.of hq⟩,_,rfl,qa,_,_,j,rfl,rfl,cB.of hq,Hj _,rfl,aaA hd hz,q⟩
def JFP (T:Txt K mg A):dw P w K mg base bR 4 A.cN "fits":=⟨_,_,_,_,[],[],T.nJ,T.Iv,(Uy T).mono (by decide),T.Ft,.nil⟩
def apR (T:Txt K mg A):dw P w K mg base bR 4 A.cN "answer_of":=⟨_,_,_,_,[],[],T.nJ,T.v9,(Xu T).mono (by decide),T.uC,.nil⟩
def JKP (T:Txt K mg A):dw P w K mg base bR 4 A.cN "rank":=⟨_,_,_,_,[],[],T.nJ,T.Iw,(Uz T).mono (by decide),T.Fw,.nil⟩
def JF (T:Txt K mg A):dw P w K mg base bR 4 A.bI "fits":=⟨_,_,_,_,[],[],T.qY,T.Gb,(Uw T).mono (by decide),T.CT,.nil⟩
def JAn (T:Txt K mg A):dw P w K mg base bR 4 A.bI "answer_of":=⟨_,_,_,_,[],[],T.qY,T.uR,(Xr T).mono (by decide),T.sO,.nil⟩
def JK (T:Txt K mg A):dw P w K mg base bR 4 A.bI "rank":=⟨_,_,_,_,[],[],T.qY,T.Gd,(Ux T).mono (by decide),T.CW,.nil⟩
end
abbrev Nm:=Nat→Str
inductive Kn where
 | yn | pk (ws:List Str) | nm (hi:Int) | mo (lo hi:Int) | wh (lo hi:Int)
def Kn.lo:Kn→Int
 | .mo lo _=>lo
 | .wh lo _=>lo
 | _=>0
def Kn.hi:Kn→Int
 | .yn=>1
 | .pk ws=>ws.length - 1
 | .nm hi=>hi
 | .mo _ hi=>hi
 | .wh _ hi=>hi
inductive At where
 | is (w:Str) (p:Int) | cmp (h:Str) (m:Int)
abbrev Sy:=At × Bool
abbrev Sg:=Option Sy
structure Rw where
 nm:Str
 kd:Kn
 wn:Sg
abbrev oZ:=Str × List Rw
def Pl:HO→Prop
 | .mW _=>False
 | .own _=>False
 | .sI _ _=>False
 | .ins _ _ []=>False
 | _=>True
def Kq (H H':Hp):Prop:=∀ b o,H b=some o→Pl o→H' b=some o
theorem Kq.of {H H':Hp} (s:aB H H'):Kq H H':=fun b o h _=>s b o h
theorem Kq.trans {H H1 H2:Hp} (a:Kq H H1) (b:Kq H1 H2):Kq H H2:=fun x o h p=>b x o (a x o h p) p
def pl (f:Bool) (i:Int):V:=if f=true then .int i else .non
abbrev oIs (A:cT) (dx:Addr) (n w:Str) (p:V):HO:=.ins A.oV dx [("name",.str n),("word",.str w),("place",p)]
abbrev YZ (A:cT) (dx:Addr) (n h:Str) (m:Int):HO:=.ins A.cA dx [("name",.str n),("how",.str h),("number",.int m)]
abbrev oNo (A:cT) (dx:Addr) (b:Addr):HO:=.ins A.qe dx [("test",.ref b)]
abbrev oPk (A:cT) (dk:Addr) (hi:Int) (q:Addr):HO:=.ins A.cN dk [("low",.int 0),("high",.int hi),("words",.ref q)]
def oKn (A:cT) (dk q:Addr):Kn→HO
 | .yn=>.ins A.bI dk [("low",.int 0),("high",.int 1)]
 | .pk ws=>oPk A dk (ws.length - 1) q
 | .nm hi=>.ins A.dh dk [("low",.int 0),("high",.int hi)]
 | .mo lo hi=>.ins A.iT dk [("low",.int lo),("high",.int hi)]
 | .wh lo hi=>.ins A.dB dk [("low",.int lo),("high",.int hi)]
def Q0 (A:cT) (H:Hp) (k:Addr) (x:Kn):Prop:=∃ dk q,H k=some (oKn A dk q x)∧∀ ws,x=.pk ws→ws≠[]∧H q=some (.lst (ws.map V.str))
theorem aaC {A:cT}{dk q:Addr}{x:Kn}:Pl (oKn A dk q x):=by cases x <;> trivial
theorem Q0.kq {A:cT}{H H':Hp} (f:Kq H H') {k:Addr}{x:Kn} (h:Q0 A H k x):Q0 A H' k x:=by
 obtain⟨dk,q,h1,h2⟩:=h
 exact⟨dk,q,f _ _ h1 aaC,fun ws e=>⟨(h2 ws e).1,f _ _ (h2 ws e).2 trivial⟩⟩
def wdB (b:Bool):Str:=if b=true then ‹"yes"› else ‹"no"›
def At.i:At→Nat
 | .is _ _=>0
 | .cmp _ _=>0
def At.c:At→Nat
 | .is _ _=>1
 | .cmp _ _=>0
def UG (x:Kn):At→Prop
 | .is w p=>match x with
   | .yn=>∃ b,w=wdB b∧p=rkB b
   | .pk ws=>ws.Nodup∧∃ j:Nat,ws[j]? = some w∧p=j
   | _=>False
 | .cmp _ _=>match x with
   | .yn=>False
   | .pk _=>False
   | _=>True
def atO (A:cT) (N:Nm) (f:Bool) (dx:Addr):At→HO
 | .is w p=>oIs A dx (N 0) w (pl f p)
 | .cmp h m=>YZ A dx (N 0) h m
def Fg (A:cT) (N:Nm) (H:Hp) (f:Bool) (a:Addr) (t:At):Prop:=∃ dx,H a=some (atO A N f dx t)
def Og (A:cT) (N:Nm) (H:Hp) (f:Bool) (x:V) (s:Sy):Prop:=∃ a,x=.ref a∧((s.2=false∧Fg A N H f a s.1)∨(s.2=true∧∃ dx b,H a=some (oNo A dx b)∧Fg A N H f b s.1))
def SgR (A:cT) (N:Nm) (H:Hp) (x:V):Sg→Prop
 | none=>x=.non
 | some s=>Og A N H false x s
theorem aaD {A:cT}{N:Nm}{f:Bool}{dx:Addr}{t:At}:Pl (atO A N f dx t):=by cases t <;> trivial
theorem Fg.kq {A:cT}{N:Nm}{H H':Hp} (k:Kq H H') {f:Bool}{a:Addr}{t:At} (h:Fg A N H f a t):Fg A N H' f a t:=by
 obtain⟨dx,h⟩:=h
 exact⟨dx,k _ _ h aaD⟩
theorem Og.kq {A:cT}{N:Nm}{H H':Hp} (k:Kq H H') {f:Bool}{x:V}{s:Sy} (h:Og A N H f x s):Og A N H' f x s:=by
 obtain⟨a,e,h⟩:=h
 rcases h with ⟨c,h⟩ | ⟨c,dx,b,h,h'⟩
 · exact⟨a,e,.inl ⟨c,h.kq k⟩⟩
 · exact⟨a,e,.inr ⟨c,dx,b,k _ _ h trivial,h'.kq k⟩⟩
theorem SgR.kq {A:cT}{N:Nm}{H H':Hp} (k:Kq H H') {x:V}{s:Sg} (h:SgR A N H x s):SgR A N H' x s:=by
 cases s with
 | none=>exact h
 | some s=>exact Og.kq k h
def RwR (A:cT) (N:Nm) (H:Hp) (x:V) (r:Rw):Prop:=∃ a dx k v,x=.ref a∧H a=some (Gm A dx (.str r.nm) (.ref k) v)∧Q0 A H k r.kd∧SgR A N H v r.wn
def Xv (A:cT) (N:Nm) (H:Hp) (x:V) (s:oZ):Prop:=∃ a dx q1 q2 xs,x=.ref a∧H a=some (oSh A dx (.str s.1) .non q1 q2)∧H q1=some (.lst xs)∧H q2=some (.lst [])∧Paired (RwR A N H) xs s.2
def Rb (A:cT) (N:Nm) (H:Hp) (a:Addr) (S:List oZ):Prop:=∃ dx u q1 q2 xs,H a=some (oPa A dx u q1 q2)∧H q1=some (.lst xs)∧H q2=some (.lst [])∧Paired (Xv A N H) xs S
theorem RwR.kq {A:cT}{N:Nm}{H H':Hp} (f:Kq H H') {x:V}{r:Rw} (h:RwR A N H x r):RwR A N H' x r:=by
 obtain⟨a,dx,k,v,e,h1,h2,h3⟩:=h
 exact⟨a,dx,k,v,e,f _ _ h1 trivial,h2.kq f,h3.kq f⟩
theorem Xv.kq {A:cT}{N:Nm}{H H':Hp} (f:Kq H H') {x:V}{s:oZ} (h:Xv A N H x s):Xv A N H' x s:=by
 obtain⟨a,dx,q1,q2,xs,e,h1,h2,h3,h4⟩:=h
 exact⟨a,dx,q1,q2,xs,e,f _ _ h1 trivial,f _ _ h2 trivial,f _ _ h3 trivial,zJ h4 fun _ _=>RwR.kq f⟩
theorem Rb.kq {A:cT}{N:Nm}{H H':Hp} (f:Kq H H') {a:Addr}{S:List oZ} (h:Rb A N H a S):Rb A N H' a S:=by
 obtain⟨dx,u,q1,q2,xs,h1,h2,h3,h4⟩:=h
 exact⟨dx,u,q1,q2,xs,f _ _ h1 trivial,f _ _ h2 trivial,f _ _ h3 trivial,zJ h4 fun _ _=>Xv.kq f⟩
def gU (S:List oZ) (r:Rw):Prop:=∃ s∈S,r∈s.2
structure GS (N:Nm) (S:List oZ):Prop where
 len:S.length≤5
 rows:∀ s∈S,s.2.length≤4
 una:∀ r r',gU S r→gU S r'→r.nm=r'.nm→r=r'
 q0:∃ r,gU S r∧r.nm=N 0∧∀ r' y,gU S r'→r'.wn=some y→UG r.kd y.1
def Rc (A:cT) (H:Hp) (kvs:List (Key × V)) (S:List oZ):Prop:=∀ r,gU S r→∃ k,eU kvs (.inr r.nm)=some (.ref k)∧Q0 A H k r.kd
def EdR (kvs:List (Key × V)) (S:List oZ):Prop:=∀ r,gU S r→eU kvs (.inr r.nm)=some .non
theorem Rc.kq {A:cT}{H H':Hp} (f:Kq H H') {kvs:List (Key × V)}{S:List oZ} (h:Rc A H kvs S):Rc A H' kvs S:=fun z hz=>by
 obtain⟨k,h1,h2⟩:=h z hz
 exact⟨k,h1,h2.kq f⟩
def Xw (A:cT):Sp:=fun vs H Q _=>∃ N a S,vs=[.ref a]∧Rb A N H a S∧GS N S∧∀ d kvs H',H d=none→aB H H'→H' d=some (.dK kvs)→Rc A H kvs S→Q (.ref d) H'
def UJ (A:cT):Sp:=fun vs H Q _=>∃ N a S,vs=[.ref a]∧Rb A N H a S∧GS N S∧∀ d kvs H',H d=none→aB H H'→H' d=some (.dK kvs)→EdR kvs S→Q (.ref d) H'
def rH (R:Rw→Prop) (S:List oZ) (i:Nat) (rs:List Rw) (j:Nat):Prop:=(∀ (i':Nat) (s:oZ),i'<i→S[i']? = some s→∀ r∈s.2,R r)∧∀ j' r,j'<j→rs[j']? = some r→R r
theorem rH.zero {R:Rw→Prop}{S:List oZ}{rs:List Rw}:rH R S 0 rs 0:=⟨fun _ _ h=>absurd h (Nat.not_lt_zero _),fun _ _ h=>absurd h (Nat.not_lt_zero _)⟩
theorem rH.next {R:Rw→Prop}{S:List oZ}{i:Nat}{s:oZ}{rs':List Rw} (hs:S[i]? = some s) (h:rH R S i s.2 s.2.length):rH R S (i+1) rs' 0:=⟨fun i' s' hi e r hr=>by
 by_cases z:i'=i
 · subst z;rw [hs] at e;cases e
   obtain⟨j,hj⟩:=List.mem_iff_getElem?.mp hr
   exact h.2 j r (List.getElem?_eq_some_iff.mp hj).1 hj
 · exact h.1 i' s' (by omega) e r hr,fun _ _ h=>absurd h (Nat.not_lt_zero _)⟩
theorem rH.first {R:Rw→Prop}{S:List oZ}{i:Nat}{rs rs':List Rw} (h:rH R S i rs 0):rH R S i rs' 0:=⟨h.1,fun _ _ h=>absurd h (Nat.not_lt_zero _)⟩
theorem rH.ask {R R':Rw→Prop}{S:List oZ}{i j:Nat}{s:oZ}{r:Rw} (hs:S[i]? = some s) (hr:s.2[j]? = some r) (h:rH R S i s.2 j) (k:∀ z,gU S z→R z→R' z) (kr:R' r):rH R' S i s.2 (j+1):=⟨fun i' s hi e r hr=>k _ ⟨s,List.mem_of_getElem? e,hr⟩ (h.1 i' s hi e r hr),fun j' r' hj e=>by
 by_cases z:j'=j
 · subst z;rw [hr] at e;cases e;exact kr
 · exact k _ ⟨s,List.mem_of_getElem? hs,List.mem_of_getElem? e⟩ (h.2 j' r' (by omega) e)⟩
theorem rH.all {R:Rw→Prop}{S:List oZ}{rs:List Rw} (h:rH R S S.length rs 0):∀ z,gU S z→R z:=fun z hz=>by
 obtain⟨s,hs,hr⟩:=hz
 obtain⟨i,hi⟩:=List.mem_iff_getElem?.mp hs
 exact h.1 i s (List.getElem?_eq_some_iff.mp hi).1 hi z hr
section
variable {P:Program}{w:World}{K:W.Frag}{mg:Str→Option Value}{base:Heap}{A:cT}
theorem Ah (T:Txt K mg A):aV P w K mg base bR 1 A.pA A.uh ["paper"] (Xw A):=by
 refine T.M9.ok nP (fun vs H Q E h=>?_) (fun cdv A0 outer s H vs Q E hr h=>?_)
 · obtain⟨N,a,S,rfl,_⟩:=h
   rfl
 obtain⟨N,a,S,rfl,hP,hG,q⟩:=h
 refine⟨_,(zC (zQ (i:=1) nP.nd rfl ‹0› oN)
     (zC (lu PassesOwn.never rfl (xH (zM (pv 0) rfl)) (yW (i:=2) nP.nd rfl ‹0›) (zE (lu PassesOwn.never rfl (xH (zM (pv 2) rfl)) (yW (i:=3) nP.nd rfl ‹0›) (zE (yB (yN (zR yQ (by rfl) T.aF Bt.isinstance (zA (pv 3) (zA (zr rfl T.Ua) zD)))) (zE (vA (xM hr) (pv 1) (zM (pv 3) rfl) (zM (pv 3) rfl) rfl)) zP)))))
     (zE (zK (pv 1))))),?_⟩
 intro d hd
 obtain⟨dx,u,q1,q2,xs,p1,p2,p3,p4⟩:=hP
 have s0:=zG hd (.dK [])
 refine⟨_,rfl,a,_,dx,_,_,rfl,s0 _ _ p1,T.iU,T.dR,(by rw [lk2 (by symm)]),q1,rfl,⟨xs,cB.of (s0 _ _ p2)⟩,?_⟩
 have lens:=zX p4
 have hlen:=hG.len
 refine xL (xs:=xs) (fun i σ H'=>∃ kvs u v,σ=[some (.ref a),some (.ref d),u,v]∧Fr [d] (upd H d (.dK [])) H'∧H' d=some (.dK kvs)∧kvs.length≤4*i∧rH (fun z=>∃ k,eU kvs (.inr z.nm)=some (.ref k)∧Q0 A H k z.kd) S i [] 0) ⟨[],_,_,rfl,Fr.of (aB.refl _),zB,Nat.zero_le _,.zero⟩ (fun i σ H' hi hw=>?_) (fun i x σ H' hx hw=>?_) (fun σ H' hw=>?_)
 · obtain⟨kvs,u,v,rfl,F,_⟩:=hw
   exact cB.of (F _ _ (s0 _ _ p2) (p7 (zH p2 hd)))
 · obtain⟨kvs,u,v,rfl,F,hd',hl,hK⟩:=hw
   obtain⟨sh,hsh,hS⟩:=yO p4 hx
   obtain⟨sa,V0,r1,r2,rs,rfl,a1,a2,a3,a4⟩:=hS
   have nn:∀ {b:Addr}{o:HO},H b=some o→H' b=some o:=fun {b o} hb=>F _ _ (s0 _ _ hb) (p7 (zH hb hd))
   have hr4:=hG.rows sh (List.mem_of_getElem? hsh)
   have hi5:i<5:=by have:=(List.getElem?_eq_some_iff.mp hsh).1;omega
   have lr:=zX a4
   refine⟨_,rfl,sa,_,V0,_,_,rfl,nn a1,T.gQ,T.jJ,rfl,r1,rfl,⟨rs,cB.of (nn a2)⟩,?_⟩
   refine xL (xs:=rs) (fun j σ H'=>∃ kvs v,σ=[some (.ref a),some (.ref d),some (.ref sa),v]∧Fr [d] (upd H d (.dK [])) H'∧H' d=some (.dK kvs)∧kvs.length≤4*i+j∧rH (fun z=>∃ k,eU kvs (.inr z.nm)=some (.ref k)∧Q0 A H k z.kd) S i sh.2 j) ⟨kvs,_,rfl,F,hd',hl,hK.first⟩ (fun j σ H2 hj hw=>?_) (fun j x σ H2 hx2 hw=>?_) (fun σ H2 hw=>?_)
   · obtain⟨kvs,v,rfl,F,_⟩:=hw
     exact cB.of (F _ _ (s0 _ _ a2) (p7 (zH a2 hd)))
   · obtain⟨kvs,v,rfl,F,hd',hl,hK⟩:=hw
     obtain⟨r,hr,hR⟩:=yO a4 hx2
     have hj4:j<4:=by have:=(List.getElem?_eq_some_iff.mp hr).1;omega
     have nn:∀ {b:Addr}{o:HO},H b=some o→H2 b=some o:=fun {b o} hb=>F _ _ (s0 _ _ hb) (p7 (zH hb hd))
     obtain⟨ra,V1,k,v',rfl,b1,b2,b3⟩:=hR
     have hrS:gU S r:=⟨sh,List.mem_of_getElem? hsh,List.mem_of_getElem? hr⟩
     · refine⟨_,rfl,_,_,_,_,rfl,rfl,.old (T.Oa H2 ra V1 _ (nn b1)),T.uQ,_,rfl,bT ?_⟩
       refine⟨_,rfl,ra,_,V1,_,_,rfl,nn b1,T.qZ,T.z9,rfl,_,rfl,_,rfl,ra,_,V1,_,_,rfl,nn b1,T.qZ,T.nM,rfl,d,_,rfl,Cd.k (k:=.inr r.nm) hd' (yL (m:=1000) (by omega)),?_⟩
       have hp:=xD kvs (.inr r.nm) (.ref k)
       refine⟨_,_,rfl,F.upd (List.mem_singleton.mpr rfl) _,zB,by omega,hK.ask hsh hr (fun z hzS hz=>?_) ?_⟩
       · rw [lL]
         by_cases e:(Sum.inr z.nm:Key)=.inr r.nm
         · rw [if_pos e]
           have:=hG.una z r hzS hrS (Sum.inr.inj e)
           subst this
           exact⟨k,rfl,b2⟩
         · rw [if_neg e];exact hz
       · rw [lL,if_pos rfl];exact⟨k,rfl,b2⟩
   · obtain⟨kvs,v,rfl,F,hd',hl,hK⟩:=hw
     rw [lr] at hl hK
     exact⟨kvs,_,_,rfl,F,hd',by omega,hK.next hsh⟩
 · obtain⟨kvs,u,v,rfl,F,hd',hl,hK⟩:=hw
   rw [lens] at hK
   exact⟨_,rfl,q d kvs H' hd (fun b o hb=>F _ _ (s0 _ _ hb) (p7 (zH hb hd))) hd' hK.all⟩
theorem Jc (T:Txt K mg A):aV P w K mg base bR 1 A.m6 A.qH ["paper"] (UJ A):=by
 refine T.Kc.ok lE (fun vs H Q E h=>?_) (fun cdv A0 outer s H vs Q E hr h=>?_)
 · obtain⟨N,a,S,rfl,_⟩:=h
   rfl
 obtain⟨N,a,S,rfl,hP,hG,q⟩:=h
 refine⟨_,(zC (zQ (i:=1) lE.nd rfl ‹0› oN)
     (zC (lu PassesOwn.never rfl (xH (zM (pv 0) rfl)) (yW (i:=2) lE.nd rfl ‹0›) (zE (lu PassesOwn.never rfl (xH (zM (pv 2) rfl)) (yW (i:=3) lE.nd rfl ‹0›) (zE (yB (yN (zR yQ (by rfl) T.aF Bt.isinstance (zA (pv 3) (zA (zr rfl T.Ua) zD)))) (zE (vA (xM hr) (pv 1) (zM (pv 3) rfl) (zM (pv 2) rfl) rfl)) zP)))))
     (zE (zK (pv 1))))),?_⟩
 intro d hd
 obtain⟨dx,u,q1,q2,xs,p1,p2,p3,p4⟩:=hP
 have s0:=zG hd (.dK [])
 refine⟨_,rfl,a,_,dx,_,_,rfl,s0 _ _ p1,T.iU,T.dR,(by rw [lk2 (by symm)]),q1,rfl,⟨xs,cB.of (s0 _ _ p2)⟩,?_⟩
 have lens:=zX p4
 have hlen:=hG.len
 refine xL (xs:=xs) (fun i σ H'=>∃ kvs u v,σ=[some (.ref a),some (.ref d),u,v]∧Fr [d] (upd H d (.dK [])) H'∧H' d=some (.dK kvs)∧kvs.length≤4*i∧rH (fun z=>eU kvs (.inr z.nm)=some .non) S i [] 0) ⟨[],_,_,rfl,Fr.of (aB.refl _),zB,Nat.zero_le _,.zero⟩ (fun i σ H' hi hw=>?_) (fun i x σ H' hx hw=>?_) (fun σ H' hw=>?_)
 · obtain⟨kvs,u,v,rfl,F,_⟩:=hw
   exact cB.of (F _ _ (s0 _ _ p2) (p7 (zH p2 hd)))
 · obtain⟨kvs,u,v,rfl,F,hd',hl,hK⟩:=hw
   obtain⟨sh,hsh,hS⟩:=yO p4 hx
   obtain⟨sa,V0,r1,r2,rs,rfl,a1,a2,a3,a4⟩:=hS
   have nn:∀ {b:Addr}{o:HO},H b=some o→H' b=some o:=fun {b o} hb=>F _ _ (s0 _ _ hb) (p7 (zH hb hd))
   have hr4:=hG.rows sh (List.mem_of_getElem? hsh)
   have hi5:i<5:=by have:=(List.getElem?_eq_some_iff.mp hsh).1;omega
   have lr:=zX a4
   refine⟨_,rfl,sa,_,V0,_,_,rfl,nn a1,T.gQ,T.jJ,rfl,r1,rfl,⟨rs,cB.of (nn a2)⟩,?_⟩
   refine xL (xs:=rs) (fun j σ H'=>∃ kvs v,σ=[some (.ref a),some (.ref d),some (.ref sa),v]∧Fr [d] (upd H d (.dK [])) H'∧H' d=some (.dK kvs)∧kvs.length≤4*i+j∧rH (fun z=>eU kvs (.inr z.nm)=some .non) S i sh.2 j) ⟨kvs,_,rfl,F,hd',hl,hK.first⟩ (fun j σ H2 hj hw=>?_) (fun j x σ H2 hx2 hw=>?_) (fun σ H2 hw=>?_)
   · obtain⟨kvs,v,rfl,F,_⟩:=hw
     exact cB.of (F _ _ (s0 _ _ a2) (p7 (zH a2 hd)))
   · obtain⟨kvs,v,rfl,F,hd',hl,hK⟩:=hw
     obtain⟨r,hr,hR⟩:=yO a4 hx2
     have hj4:j<4:=by have:=(List.getElem?_eq_some_iff.mp hr).1;omega
     have nn:∀ {b:Addr}{o:HO},H b=some o→H2 b=some o:=fun {b o} hb=>F _ _ (s0 _ _ hb) (p7 (zH hb hd))
     obtain⟨ra,V1,k,v',rfl,b1,b2,b3⟩:=hR
     have hrS:gU S r:=⟨sh,List.mem_of_getElem? hsh,List.mem_of_getElem? hr⟩
     · refine⟨_,rfl,_,_,_,_,rfl,rfl,.old (T.Oa H2 ra V1 _ (nn b1)),T.uQ,_,rfl,bT ?_⟩
       refine⟨_,rfl,sa,_,V0,_,_,rfl,nn a1,T.gQ,T.oG,rfl,_,rfl,_,rfl,ra,_,V1,_,_,rfl,nn b1,T.qZ,T.nM,rfl,d,_,rfl,Cd.k (k:=.inr r.nm) hd' (yL (m:=1000) (by omega)),?_⟩
       have hp:=xD kvs (.inr r.nm) .non
       refine⟨_,_,rfl,F.upd (List.mem_singleton.mpr rfl) _,zB,by omega,hK.ask hsh hr (fun z hzS hz=>?_) ?_⟩
       · rw [lL]
         by_cases e:(Sum.inr z.nm:Key)=.inr r.nm
         · rw [if_pos e]
         · rw [if_neg e];exact hz
       · rw [lL,if_pos rfl]
   · obtain⟨kvs,v,rfl,F,hd',hl,hK⟩:=hw
     rw [lr] at hl hK
     exact⟨kvs,_,_,rfl,F,hd',by omega,hK.next hsh⟩
 · obtain⟨kvs,u,v,rfl,F,hd',hl,hK⟩:=hw
   rw [lens] at hK
   exact⟨_,rfl,q d kvs H' hd (fun b o hb=>F _ _ (s0 _ _ hb) (p7 (zH hb hd))) hd' hK.all⟩
def ad9 (A:cT):Sp:=fun vs H Q _=>∃ N a S,vs=[.ref a]∧Rb A N H a S∧∀ d H',H d=none→aB H H'→H' d=some (.dK [])→Q (.ref d) H'
theorem Bo (T:Txt K mg A):aV P w K mg base bR 1 A.iI A.lY ["paper"] (ad9 A):=by
 refine T.Di.ok Bk (fun vs H Q E h=>?_) (fun cdv A0 outer s H vs Q E hr h=>?_)
 · obtain⟨N,a,sh,rfl,_⟩:=h
   rfl
 obtain⟨N,a,sh,rfl,hP,q⟩:=h
 refine⟨_,(zE (zK (xN (Fp rfl) (by rfl) T.N5 Bt.dict (zA (Cy (ue (lG (x:="name") (M:=["paper"]) rfl (by rfl)) (by rfl) (by symm)) rfl (xH (zM (pv 0) rfl)) (fun _ _ _ _=>Cw) (fun _ _ _ _=>(yA (zA (pv 0) (zA Tt zD))))) zD)))),?_⟩
 obtain⟨dx,u,q1,q2,xs,p1,p2,p3,p4⟩:=hP
 refine⟨_,rfl,a,_,dx,_,_,rfl,p1,T.iU,T.qg,rfl,q2,rfl,⟨[],cB.of p3⟩,?_⟩
 refine uf (xs:=[]) (Nat.zero_le _) (fun i zs H'=>H=H'∧zs=[]) ⟨rfl,rfl⟩ (fun i zs H' hw=>by obtain⟨rfl,_⟩:=hw;exact cB.of p3) (fun i x zs H' hx hlen hw=>by simp at hx) (fun zs H' hw p2' hp2=>?_)
 obtain⟨rfl,rfl⟩:=hw
 refine⟨p2',rfl,zB,fun d hd=>?_⟩
 exact q d _ (jV hd).2 ((zG hp2 _).trans (zG hd _)) zB
end
theorem qj {a b:Str}{A B:Prop} (h:a≠b) (k:B):if (decide (V.str a=V.str b))=true then A else B:=by
 rw [decide_eq_false (fun e=>h (V.str.inj e))]
 exact aN k
theorem Jd {a b:Str}{A B:Prop} (h:a=b) (k:A):if (decide (V.str a=V.str b))=true then A else B:=by
 rw [decide_eq_true (by rw [h])]
 exact bT k
theorem Br (i m:Int):decide (V.int i=V.int m)=decide (i=m):=by
 by_cases e:i=m
 · rw [decide_eq_true e,decide_eq_true (by rw [e])]
 · rw [decide_eq_false e,decide_eq_false (fun z=>e (V.int.inj z))]
abbrev qx:=Int × Int
abbrev Rg:=Str→qx
def rv:Option Int→V
 | none=>.non
 | some i=>.int i
def tv:Option Bool→V
 | none=>.non
 | some b=>.bl b
def o4 (r:Option Int) (h:Str) (m:Int):Bool:=match r with
 | none=>false
 | some i=>if h="<" then decide (i<m) else if h=">" then decide (m<i) else decide (i=m)
def mK (p:qx) (h:Str) (m:Int):Option Bool:=if (o4 (some p.1) h m && o4 (some p.2) h m)=true then some true else if (o4 (some p.1) h m || o4 (some p.2) h m || (decide (p.1<m) && decide (m<p.2)))=true then none else some false
def At.h:At→Str
 | .is _ _=>‹"="›
 | .cmp h _=>h
def At.m:At→Int
 | .is _ p=>p
 | .cmp _ m=>m
def Gr (rg:Rg) (N:Nm) (t:At):Option Bool:=mK (rg (N t.i)) t.h t.m
def tri (rg:Rg) (N:Nm) (s:Sy):Option Bool:=if s.2=true then (Gr rg N s.1).map (!·) else Gr rg N s.1
structure GA where
 dx:Addr
 pa:Addr
 kd:Addr
 ed:Addr
 tg:Addr
 aq:Addr
 lg:Addr
 db:Addr
 bx:Addr
abbrev gF (c:GA) (ov:Bool) (ct:V):List (Str × V):=[("paper",.ref c.pa),("alone",.int 0),("kinds",.ref c.kd),("eaches",.ref c.ed),("together",.ref c.tg),("asked",.ref c.aq),("log",.ref c.lg),("doubles",.ref c.db),("over",.bl ov),("box",.ref c.bx),("cutting",ct)]
abbrev oGo (A:cT) (c:GA) (ov:Bool) (ct:V):HO:=.ins A.az c.dx (gF c ov ct)
def AqR (H:Hp) (kvs:List (Key × V)) (rg:Rg) (l:List Str):Prop:=kvs.length≤l.length∧(∀ z∈l,∃ d t,eU kvs (.inr z)=some (.ref d)∧H d=some (.dK [(.inl 0,.ref t)])∧H t=some (.tup [.int (rg z).1,.int (rg z).2]))∧∀ z,z∉l→eU kvs (.inr z)=none
theorem AqR.kq {H H':Hp} (f:Kq H H') {kvs:List (Key × V)}{rg:Rg}{l:List Str} (h:AqR H kvs rg l):AqR H' kvs rg l:=⟨h.1,fun z hz=>by
 obtain⟨d,t,h1,h2,h3⟩:=h.2.1 z hz
 exact⟨d,t,h1,f _ _ h2 trivial,f _ _ h3 trivial⟩,h.2.2⟩
structure RkS (A:cT) (H:Hp) (g:Addr) (c:GA) (ov:Bool) (ct:V) (S:List oZ) (rg:Rg) (l:List Str):Prop where
 go:H g=some (oGo A c ov ct)
 tg:H c.tg=some (.dK [])
 ed:∃ kvs,H c.ed=some (.dK kvs)∧EdR kvs S
 aq:∃ kvs,H c.aq=some (.dK kvs)∧AqR H kvs rg l
theorem RkS.kq {A:cT}{H H':Hp} (f:Kq H H') {g:Addr}{c:GA}{ov:Bool}{ct:V}{S:List oZ}{rg:Rg}{l:List Str} (h:RkS A H g c ov ct S rg l):RkS A H' g c ov ct S rg l:=by
 obtain⟨h1,h2,⟨k,h3,h4⟩,⟨k',h5,h6⟩⟩:=h
 exact⟨f _ _ h1 trivial,f _ _ h2 trivial,⟨k,f _ _ h3 trivial,h4⟩,⟨k',f _ _ h5 trivial,h6.kq f⟩⟩
def Xx (s:Stmt):Expr:=match aj s with
 | [_,_,.Assign _ e _,_,_,_]=>e
 | _=>.Name "" ⟨0,0,0,0⟩
def apS (e:Expr):Arguments:=match e with
 | .Lambda a _ _ _=>a
 | _=>{ posonlyargs:=[],args:=[],vararg:=none,kwonlyargs:=[],kw_defaults:=[],kwarg:=none,defaults:=[] }
def apT (e:Expr):Expr:=match e with
 | .Lambda _ b _ _=>b
 | _=>.Name "" ⟨0,0,0,0⟩
def apU (e:Expr):Scope:=match e with
 | .Lambda _ _ s _=>s
 | _=>{ kind:=.function,names:=[],isGenerator:=false,isCoroutine:=false }
def lamP (e:Expr):Pos:=match e with
 | .Lambda _ _ _ p=>p
 | _=>⟨0,0,0,0⟩
def DL:jO:={ qual:=‹"ByBox.is_so"› ++ ".<locals>." ++ "<lambda>",params:=apS (Xx aK),body:=apT (Xx aK),scope:=apU (Xx aK),x:="name",ys:=["thing","self"] }
abbrev Q3:Pos:=lamP (Xx aK)
theorem Oh:DL.Ok:=⟨rfl,rfl,rfl,rfl,by symm,fun _ _ _ _ _=>rfl⟩
def aea (P:Program) (w:World) (K:W.Frag) (mg:Str→Option Value) (base:Heap) (k:Nat):TE:=fun σ H Q=>mX 2 σ H fun x H1=>∃ (a C dx:Addr) (fs:List (Str × V)) (M:dw P w K mg base bR k C "span_of"),x=.ref a∧H1 a=some (.ins C dx fs)∧fs.lookup ‹"span_of"› = none ∧
 RG (mX 0) (RG (mX 1) Qx) σ H1 fun vs H2=>M.sp (x::(vs++M.t8)) H2 Q E0
theorem Li {P:Program}{w:World}{K:W.Frag}{mg:Str→Option Value}{base:Heap}{p:Addr}{cs:List (Str × Addr)}{cd:Value}{A:Around}{outer:List Env}{s:Shared}{H:Hp}{E:XK} (hr:fc 4 (A.deeper (W.envX DL.qual DL.scope s.heap.objs.size p cd cs))) :
   PE (CG bR P w K mg base DL p cs cd A outer s H E) DL.body (aea P w K mg base 4):=by
 show PE _ (.Call (.Attribute (.Name "self" _) "span_of" _) [.Name "name" _,.Name "thing" _] [] _) _
 exact yF (CX:=bR) (k:=4) hr zN (pv 2) (zA (pv 0) (zA (pv 1) zD))
theorem Y0 {D:jO}{H:Hp}{p:Addr}{cs:List (Str × Addr)}{ws:List V} (L:Cz D H p cs ws):Kq H (dels H (cs.map (·.2))):=fun b o h p=>by
 rw [xA]
 · exact h
 · intro hb
   obtain⟨q,hq,rfl⟩:=List.mem_map.mp hb
   obtain⟨v,_,ob,f⟩:=qG L.cells q hq
   rw [h] at f;cases f;exact p
theorem UL {H H':Hp} (s:aB H H') {b:Addr}{u:HO} (h:Fz H b u):Fz H' b u:=by
 obtain⟨o,h⟩:=h
 exact⟨o,s _ _ h⟩
theorem Xy {D:jO}{H H':Hp} (s:aB H H') {p:Addr}{cs:List (Str × Addr)}{ws:List V} (L:Cz D H p cs ws):Cz D H' p cs ws:=by
 obtain⟨⟨c',h1,h2⟩,h3,h4,h5⟩:=L
 exact⟨⟨c',s _ _ h1,UL s h2⟩,h3,h4,zJ h5 fun _ _=>UL s⟩
theorem Hk {H:Hp}{ca:List Addr}{b:Addr}{o:HO} (h:dels H ca b=some o):H b=some o:=by
 by_cases e:b∈ca
 · rw [su e] at h;cases h
 · rw [xA e] at h;exact h
def Et (S:List oZ) (z:Str):Prop:=∃ r,gU S r∧r.nm=z
theorem EdR.at {kvs:List (Key × V)}{S:List oZ} (h:EdR kvs S) {z:Str} (hz:Et S z):eU kvs (.inr z)=some .non:=by
 obtain⟨r,h1,rfl⟩:=hz
 exact h r h1
def Lj (A:cT) (H:Hp) (p:Addr) (S:List oZ) (rg:Rg) (l:List Str):Prop:=∃ cs g c ov ct,Cz DL H p cs [.int 0,.ref g]∧RkS A H g c ov ct S rg l
def aeb (A:cT):Sp:=fun vs H Q _=>∃ g c ov ct S rg l z,vs=[.ref g,.str z,.int 0]∧RkS A H g c ov ct S rg l∧Et S z∧Q (.int 0) H
def aec (A:cT):Sp:=fun vs H Q _=>∃ g c ov ct S rg l z,vs=[.ref g,.str z,.int 0]∧RkS A H g c ov ct S rg l∧Et S z∧z∈l∧∀ t H',aB H H'→H t=some (.tup [.int (rg z).1,.int (rg z).2])→Q (.ref t) H'
def aaI:Sp:=fun vs H Q _=>∃ r h m,vs=[rv r,.str h,.int m]∧Q (.bl (o4 r h m)) H
def apV (K:W.Frag):Sp:=fun vs H Q _=>∃ a lo hi h m,vs=[.ref a,.str h,.int m]∧H a=some (.tup [.int lo,.int hi])∧∀ H',aB H H'→Q (tv (mK (lo,hi) h m)) H'
def aaJ (A:cT) (j:Nat):Sp:=fun vs H Q _=>∃ a N t p S rg l,vs=[.ref a,.ref p]∧Fg A N H true a t∧t.c=j∧Lj A H p S rg l∧Et S (N t.i)∧N t.i∈l∧∀ H',aB H H'→Q (tv (Gr rg N t)) H'
def aed (A:cT):Sp:=fun vs H Q _=>∃ a dx b N t p S rg l,vs=[.ref a,.ref p]∧H a=some (oNo A dx b)∧Fg A N H true b t∧Lj A H p S rg l∧Et S (N t.i)∧N t.i∈l∧∀ H',aB H H'→Q (tv ((Gr rg N t).map (!·))) H'
section
variable {P:Program}{w:World}{K:W.Frag}{mg:Str→Option Value}{base:Heap}{A:cT}
theorem aaK (T:Txt K mg A):aV P w K mg base bR 1 A.gC A.gD ["self","question","thing"] (aeb A):=by
 refine T.sS.ok rB (fun vs H Q E h=>?_) (fun cdv A0 outer s H vs Q E hr h=>?_)
 · obtain⟨g,c,ov,ct,S,rg,l,z,rfl,_⟩:=h
   rfl
 obtain⟨g,c,ov,ct,S,rg,l,z,rfl,hR,hz,q⟩:=h
 refine⟨_,(zE (zK (oK (zL xO (Bu (xM hr) (zM (pv 0) rfl) (pv 1) (fun _ _=>rfl)) yM (zO _)) (zM (pv 0) rfl) (pv 2)))),?_⟩
 obtain⟨kvs,e1,e2⟩:=hR.ed
 refine⟨_,rfl,g,_,c.dx,gF c ov ct,_,rfl,hR.go,T.aA,T.qi,rfl,_,rfl,c.ed,.non,rfl,(by rw [← e2.at hz];exact jd.k (k:=.inr z) e1),rfl,_,rfl,bT ?_⟩
 exact⟨_,rfl,g,_,c.dx,gF c ov ct,_,rfl,hR.go,T.aA,T.mG,rfl,q⟩
def JOw (T:Txt K mg A):dw P w K mg base bR 2 A.az "own_thing":=⟨_,_,_,_,[],[],T.aA,T.uV,(aaK T).mono (by decide),T.sU,.nil⟩
theorem aee (T:Txt K mg A):aV P w K mg base bR 3 A.ig A.ik ["self","question","thing"] (aec A):=by
 refine T.uD.ok tH (fun vs H Q E h=>?_) (fun cdv A0 outer s H vs Q E hr h=>?_)
 · obtain⟨g,c,ov,ct,S,rg,l,z,rfl,_⟩:=h
   rfl
 obtain⟨g,c,ov,ct,S,rg,l,z,rfl,hR,hz,hm,q⟩:=h
 obtain⟨rJ,e1⟩:∃ k:Nat,k=2:=⟨_,rfl⟩
 refine⟨_,(zE (zK (JS (xM hr) (JT (xM hr) (zM (pv 0) rfl) (pv 1) oN ⟨rfl,rfl,rfl,rfl⟩) (yF (CX:=bR) (k:=rJ) ‹hr› zN (pv 0) (zA (pv 1) (zA (pv 2) zD))) ⟨rfl,rfl,rfl,rfl⟩))),?_⟩
 subst e1
 obtain⟨kvs,a1,a2⟩:=hR.aq
 refine⟨_,rfl,g,_,c.dx,gF c ov ct,_,rfl,hR.go,T.aA,T.gj,rfl,c.aq,rfl,.inl ⟨kvs,.inl a1⟩,_,rfl,fun d hd=>?_⟩
 have s1:=zG hd (.dK [])
 have R1:=hR.kq (.of s1)
 refine⟨_,jd.k (k:=.inr z) (s1 _ _ a1),?_⟩
 obtain⟨d2,t,b2,b3,b4⟩:=a2.2.1 z hm
 rw [b2]
 refine⟨d2,rfl,.inl ⟨_,.inl (s1 _ _ b3)⟩,_,rfl,g,_,c.dx,gF c ov ct,JOw T,rfl,R1.go,rfl,_,rfl,_,rfl,?_⟩
 exact⟨g,c,ov,ct,S,rg,l,z,rfl,R1,hz,_,jd.k (k:=.inl 0) (s1 _ _ b3),q t _ s1 b4⟩
def JKn (T:Txt K mg A):dw P w K mg base bR 3 A.az "known_of":=⟨_,_,_,_,[],[],T.aA,T.wj,aee T,T.uE,.nil⟩
theorem Xz (T:Txt K mg A):aV P w K mg base bR 4 A.iQ A.iR ["self","name","thing"] (aec A):=by
 refine T.vU.ok uY (fun vs H Q E h=>?_) (fun cdv A0 outer s H vs Q E hr h=>?_)
 · obtain⟨g,c,ov,ct,S,rg,l,z,rfl,_⟩:=h
   rfl
 obtain⟨g,c,ov,ct,S,rg,l,z,rfl,hR,hz,hm,q⟩:=h
 obtain⟨u0,e1⟩:∃ k:Nat,k=3:=⟨_,rfl⟩
 refine⟨_,(zC (yB (zL (CK (xM hr)) (pv 1) (zM (pv 0) rfl) (by rfl)) (zE (zK (yF (CX:=bR) (k:=u0) ‹hr› zN (pv 0) (zA (pv 1) (zA (pv 2) zD))))) zP)
     (zC qd
     (zC qd
     (zC qd
     (zC qd
     (zE qd)))))),?_⟩
 subst e1
 refine⟨_,rfl,_,rfl,g,_,c.dx,gF c ov ct,_,rfl,hR.go,T.aA,T.iW,rfl,c.tg,_,rfl,jd.k (k:=.inr z) hR.tg,_,rfl,bT ?_⟩
 refine⟨_,rfl,g,_,c.dx,gF c ov ct,JKn T,rfl,hR.go,rfl,_,rfl,_,rfl,?_⟩
 exact⟨g,c,ov,ct,S,rg,l,z,rfl,hR,hz,hm,q⟩
def JRk (T:Txt K mg A):dw P w K mg base bR 4 A.az "span_of":=⟨_,_,_,_,[],[],T.aA,T.yg,Xz T,T.vV,.nil⟩
theorem Lk (T:Txt K mg A):aV P w K mg base bR 1 A.pD A.um ["rank","how","number"] aaI:=by
 refine T.Nb.ok Lb (fun vs H Q E h=>?_) (fun cdv A0 outer s H vs Q E hr h=>?_)
 · obtain⟨r,h,m,rfl,_⟩:=h
   rfl
 obtain⟨r,h,m,rfl,q⟩:=h
 refine⟨_,(zC (yB (zL xO (pv 0) yM (zO _)) (zE (zK xR)) zP)
     (zC (yB (zL yS (pv 1) zS (zO _)) (zE (zK (xG m5 (pv 0) (pv 2) (zO _)))) zP)
     (zC (yB (zL yS (pv 1) zS (zO _)) (zE (zK (xG O9 (pv 0) (pv 2) (zO _)))) zP)
     (zE (zK (xG yS (pv 0) (pv 2) (zO _))))))),?_⟩
 cases r with
 | none=>exact⟨_,rfl,rfl,_,rfl,bT q⟩
 | some i =>
   have q':Q (.bl (if h="<" then decide (i<m) else if h=">" then decide (m<i) else decide (i=m))) H:=q
   refine⟨_,rfl,rfl,_,rfl,aN ?_⟩
   by_cases h1:h="<"
   · rw [if_pos h1] at q'
     exact⟨_,rfl,rfl,_,rfl,Jd h1 ⟨_,rfl,_,rfl,_,_,rfl,rfl,q'⟩⟩
   rw [if_neg h1] at q'
   refine⟨_,rfl,rfl,_,rfl,qj h1 ?_⟩
   by_cases h2:h=">"
   · rw [if_pos h2] at q'
     exact⟨_,rfl,rfl,_,rfl,Jd h2 ⟨_,rfl,_,rfl,_,_,rfl,rfl,q'⟩⟩
   rw [if_neg h2] at q'
   refine⟨_,rfl,rfl,_,rfl,qj h2 ⟨_,rfl,_,rfl,rfl,?_⟩⟩
   have e:=Br i m
   rw [← e] at q'
   exact q'
theorem mL (T:Txt K mg A):aV P w K mg base bR 2 A.fP A.iJ ["span","how","number"] (apV K):=by
 have Oi:=Lk (P:=P) (w:=w) (base:=base) T
 refine T.vP.ok iB (fun vs H Q E h=>?_) (fun cdv A0 outer s H vs Q E hr h=>?_)
 · obtain⟨a,lo,hi,h,m,rfl,_⟩:=h
   rfl
 obtain⟨a,lo,hi,h,m,rfl,ha',q⟩:=h
 have ha:eY K H a [.int lo,.int hi]:=eY.of ha'
 refine⟨_,(zC (yB (zL xO (pv 0) yM (zO _)) (zE (zK xR)) zP)
     (zC (Sh (i:=3) iB.nd rfl ‹0› (lG (x:="end") (M:=["span","how","number","at_ends","between"]) rfl (by rfl)) rfl (ZJ (pv 0)) (fun _ _ _ _=>(zT Oi ‹hr› rfl T.Nh T.Ng T.Nf .nil zN (zA (pv 0) (zA (pv 2) (zA (pv 3) zD))))))
     (zC (yB (yN (zR (R7 rfl) (by rfl) T.adX Bt.all (zA (pv 3) zD))) (zE (zK xR)) zP)
     (zC (zQ (i:=4) iB.nd rfl ‹0› (RB m5 m5 (zW zY (pv 0) zF (fun _ _=>rfl)) (pv 2) (zW zY (pv 0) zF (fun _ _=>rfl))))
     (zE (zK (oK (PW.pt (vh (yN (zR (Tq rfl) (by rfl) T.adY PyProof.Rows.boot_any (zA (pv 3) zD))) (o7 (yN (pv 4))))) yM xR))))))),?_⟩
 · skip
   refine⟨_,rfl,rfl,_,rfl,aN ?_⟩
   refine⟨_,rfl,a,rfl,⟨_,ha⟩,?_⟩
   refine S7 (xs:=[.int lo,.int hi]) (by show 2≤sizeLine;decide) (fun i ys H'=>H=H'∧ys=([lo,hi].take i).map (fun e=>V.bl (o4 (some e) h m))) ⟨rfl,rfl⟩ (fun i ys H' hw=>by rw [← hw.1];exact ha) (fun i x ys H' hx hl hw=>?_) (fun ys H' hl hw pe hpe=>?_)
   · obtain⟨rfl,rfl⟩:=hw
     obtain⟨e,he,rfl⟩:=rW (l:=[lo,hi]) (f:=V.int) hx
     refine⟨_,rfl,_,rfl,_,rfl,some e,h,m,rfl,rfl,?_⟩
     rw [List.take_succ,he,List.map_append];rfl
   obtain⟨rfl,rfl⟩:=hw
   have q':∀ H',aB H H'→Q (tv (if (o4 (some lo) h m && o4 (some hi) h m)=true then some true else if (o4 (some lo) h m || o4 (some hi) h m || (decide (lo<m) && decide (m<hi)))=true then none else some false)) H':=q
   have se:=zG hpe (.lst [.bl (o4 (some lo) h m),.bl (o4 (some hi) h m)])
   have b0:jD [V.int lo,V.int hi] ((0:Nat):Int)=some (.int lo):=zV rfl
   have b1:jD [V.int lo,V.int hi] ((1:Nat):Int)=some (.int hi):=zV rfl
   dsimp only [List.length_cons,List.length_nil,List.take,List.map] at hpe ⊢
   generalize o4 (some lo) h m=c0 at q' se hpe ⊢
   generalize o4 (some hi) h m=c1 at q' se hpe ⊢
   refine⟨_,rfl,pe,[c0,c1],rfl,cB.of zB,_,rfl,lq (fun d=>?_) (fun d=>?_)⟩
   · have d':(c0 && c1)=true:=by rw [← d];cases c0 <;> cases c1 <;> rfl
     have:=q' _ se
     rw [if_pos d'] at this
     exact this
   have d':¬ (c0 && c1)=true:=fun e=>d (by rw [← e];cases c0 <;> cases c1 <;> rfl)
   have q2:=q' _ se
   rw [if_neg d'] at q2
   have fin:∀ (bt:Bool),bt=(decide (lo<m) && decide (m<hi))→Q (tv (if (c0 || c1 || bt)=true then none else some false)) (upd H pe (.lst [.bl c0,.bl c1])):=fun bt e=>by rw [e];exact q2
   refine⟨_,rfl,a,_,_,_,rfl,rfl,se.vI ha,b0,_,rfl,_,_,rfl,rfl,_,rfl,lq (fun d=>?_) (fun d=>?_)⟩
   · refine⟨_,rfl,a,_,_,_,rfl,rfl,se.vI ha,b1,_,_,rfl,rfl,?_⟩
     have f:=fin (decide (m<hi)) (by rw [show decide (lo<m)=true from d];rfl)
     refine⟨_,rfl,pe,[c0,c1],rfl,cB.of zB,_,rfl,?_⟩
     cases c0 <;> cases c1 <;> first | exact bT f | skip
     exact aN ⟨_,rfl,_,rfl,by generalize decide (m<hi)=b at f ⊢;cases b <;> first | exact bT f | exact aN f⟩
   · have f:=fin false (by rw [show decide (lo<m)=false from Bool.eq_false_iff.mpr d];rfl)
     refine⟨_,rfl,pe,[c0,c1],rfl,cB.of zB,_,rfl,?_⟩
     cases c0 <;> cases c1 <;> first | exact bT f | skip
     exact aN ⟨_,rfl,_,rfl,aN f⟩
theorem Oj (T:Txt K mg A):aV P w K mg base bR 6 A.qI A.qJ ["self","look"] (aaJ A 1):=by
 have jb:=mL (P:=P) (w:=w) (base:=base) T
 refine T.Kg.ok IV (fun vs H Q E h=>?_) (fun cdv A0 outer s H vs Q E hr h=>?_)
 · obtain⟨a,N,t,p,S,rg,l,rfl,_⟩:=h
   rfl
 obtain⟨a,N,t,p,S,rg,l,rfl,⟨dx,ha⟩,hj,⟨cs,g,c,ov,ct,L,R⟩,hz,hm,q⟩:=h
 refine⟨_,(zE (zK (zT jb ‹hr› rfl T.nD T.nC T.nA .nil zN (zA (J7 (k:=4) Oh (fun _ _ _ _ _ _ _ _ hr=>Li hr) ‹hr› zN (pv 1) (zA (zM (pv 0) rfl) zD)) (zA zS (zA (zM (pv 0) rfl) zD)))))),?_⟩
 have R1:=R.kq (Y0 L)
 cases t with
 | cmp _ _=>cases hj
 | is wd pp =>
   have ha:H a=some (oIs A dx (N 0) wd (.int pp)):=ha
   refine⟨_,rfl,p,rfl,_,rfl,a,_,dx,_,_,rfl,ha,T.jg,T.jA,rfl,.str (N 0),cs,_,rfl,L,?_⟩
   refine⟨_,rfl,g,_,c.dx,gF c ov ct,JRk T,rfl,R1.go,rfl,_,rfl,_,rfl,?_⟩
   refine⟨g,c,ov,ct,S,rg,l,N 0,rfl,R1,hz,hm,fun t H' s' ht=>?_⟩
   have s2:=aB.back s'
   have Q4:=s2 _ _ (Hk ht)
   exact⟨_,rfl,a,_,dx,_,_,rfl,s2 _ _ ha,T.jg,T.q9,rfl,t,_,_,_,_,rfl,Q4,fun H3 s3=>q _ (s2.trans s3)⟩
theorem Ol (T:Txt K mg A):aV P w K mg base bR 6 A.jw A.jx ["self","look"] (aaJ A 0):=by
 have jb:=mL (P:=P) (w:=w) (base:=base) T
 refine T.xV.ok wG (fun vs H Q E h=>?_) (fun cdv A0 outer s H vs Q E hr h=>?_)
 · obtain⟨a,N,t,p,S,rg,l,rfl,_⟩:=h
   rfl
 obtain⟨a,N,t,p,S,rg,l,rfl,⟨dx,ha⟩,hj,⟨cs,g,c,ov,ct,L,R⟩,hz,hm,q⟩:=h
 refine⟨_,(zE (zK (zT jb ‹hr› rfl T.nD T.nC T.nA .nil zN (zA (J7 (k:=4) Oh (fun _ _ _ _ _ _ _ _ hr=>Li hr) ‹hr› zN (pv 1) (zA (zM (pv 0) rfl) zD)) (zA (zM (pv 0) rfl) (zA (zM (pv 0) rfl) zD)))))),?_⟩
 have R1:=R.kq (Y0 L)
 cases t with
 | is _ _=>cases hj
 | cmp hw m =>
   have ha:H a=some (YZ A dx (N 0) hw m):=ha
   refine⟨_,rfl,p,rfl,_,rfl,a,_,dx,_,_,rfl,ha,T.aC,T.cJ,rfl,.str (N 0),cs,_,rfl,L,?_⟩
   refine⟨_,rfl,g,_,c.dx,gF c ov ct,JRk T,rfl,R1.go,rfl,_,rfl,_,rfl,?_⟩
   refine⟨g,c,ov,ct,S,rg,l,N 0,rfl,R1,hz,hm,fun t H' s' ht=>?_⟩
   have s2:=aB.back s'
   have Q4:=s2 _ _ (Hk ht)
   exact⟨_,rfl,a,_,dx,_,_,rfl,s2 _ _ ha,T.aC,T.dM,rfl,_,rfl,a,_,dx,_,_,rfl,s2 _ _ ha,T.aC,T.bU,rfl,t,_,_,_,_,rfl,Q4,fun H3 s3=>q _ (s2.trans s3)⟩
def apW (T:Txt K mg A) {k:Nat} (hk:6≤k):dw P w K mg base bR k A.oV "sure":=⟨_,_,_,_,[],[],T.jg,T.Ob,(Oj T).mono hk,T.Kh,.nil⟩
def apY (T:Txt K mg A) {k:Nat} (hk:6≤k):dw P w K mg base bR k A.cA "sure":=⟨_,_,_,_,[],[],T.aC,T.Be,(Ol T).mono hk,T.xW,.nil⟩
theorem aaL (T:Txt K mg A) {k:Nat} (hk:6≤k) {N:Nm}{H:Hp}{a:Addr}{t:At}{f:Bool} (h:Fg A N H f a t):∃ (C dx:Addr) (fs:List (Str × V)) (M:dw P w K mg base bR k C "sure"),H a=some (.ins C dx fs)∧fs.lookup ‹"sure"› = none∧M.t8=[]∧M.sp=aaJ A t.c:=by
 obtain⟨dx,h⟩:=h
 cases t with
 | is wd pp=>exact⟨_,dx,_,apW T hk,h,rfl,rfl,rfl⟩
 | cmp hw m=>exact⟨_,dx,_,apY T hk,h,rfl,rfl,rfl⟩
theorem Om (T:Txt K mg A):aV P w K mg base bR 7 A.pH A.pI ["self","look"] (aed A):=by
 refine T.Ie.ok tY (fun vs H Q E h=>?_) (fun cdv A0 outer s H vs Q E hr h=>?_)
 · obtain⟨a,dx,b,N,t,p,S,rg,l,rfl,_⟩:=h
   rfl
 obtain⟨a,dx,b,N,t,p,S,rg,l,rfl,ha,hb,hL,hz,hm,q⟩:=h
 obtain⟨Oo,e1⟩:∃ k:Nat,k=6:=⟨_,rfl⟩
 refine⟨_,(zC (zQ (i:=2) tY.nd rfl ‹0› (yF (CX:=bR) (k:=Oo) ‹hr› zN (zM (pv 0) rfl) (zA (pv 1) zD)))
     (zE (zK (oK (zL xO (pv 2) yM (zO _)) yM (W0 (pv 2)))))),?_⟩
 subst e1
 obtain⟨C,XC,fs,M,h1,h2,m1,m2⟩:=aaL (P:=P) (w:=w) (base:=base) T (Nat.le_refl _) hb
 refine⟨_,rfl,a,_,dx,_,_,rfl,ha,T.rn,T.nO,rfl,b,C,XC,fs,M,rfl,h1,h2,_,rfl,?_⟩
 rw [m1,m2]
 refine⟨b,N,t,p,S,rg,l,rfl,hb,rfl,hL,hz,hm,fun H' s'=>?_⟩
 have q':=q H' s'
 cases e:Gr rg N t with
 | none=>rw [e] at q';exact⟨_,rfl,rfl,_,rfl,bT q'⟩
 | some b=>rw [e] at q';exact⟨_,rfl,rfl,_,rfl,aN ⟨_,rfl,.inl ⟨b,rfl,q'⟩⟩⟩
def apZ (T:Txt K mg A):dw P w K mg base bR 7 A.qe "sure":=⟨_,_,_,_,[],[],T.rn,T.K9,Om T,T.Ig,.nil⟩
def aaM (A:cT) (j:Nat):Sp:=fun vs H Q _=>∃ a N t,vs=[.ref a]∧Fg A N H true a t∧t.c=j∧∀ p H',aB H H'→H' p=some (.lst [.ref a])→Q (.ref p) H'
def aef (A:cT):Sp:=fun vs H Q _=>∃ a dx b N t,vs=[.ref a]∧H a=some (oNo A dx b)∧Fg A N H true b t∧∀ p H',aB H H'→H' p=some (.lst [.ref b])→Q (.ref p) H'
theorem Ln (T:Txt K mg A):aV P w K mg base bR 1 A.pF A.pG ["self"] (aaM A 1):=by
 refine T.Ia.ok Gj (fun vs H Q E h=>?_) (fun cdv A0 outer s H vs Q E hr h=>?_)
 · obtain⟨a,N,t,rfl,_⟩:=h
   rfl
 obtain⟨a,N,t,rfl,ha,hj,q⟩:=h
 refine⟨_,(zE (zK (yI (zA (pv 0) zD)))),?_⟩
 exact⟨_,rfl,(by show 1≤sizeLine;decide),fun p hp=>q p _ (zG hp _) zB⟩
theorem Lp (T:Txt K mg A):aV P w K mg base bR 1 A.iK A.iM ["self"] (aaM A 0):=by
 refine T.vQ.ok uX (fun vs H Q E h=>?_) (fun cdv A0 outer s H vs Q E hr h=>?_)
 · obtain⟨a,N,t,rfl,_⟩:=h
   rfl
 obtain⟨a,N,t,rfl,ha,hj,q⟩:=h
 refine⟨_,(zE (zK (yI (zA (pv 0) zD)))),?_⟩
 exact⟨_,rfl,(by show 1≤sizeLine;decide),fun p hp=>q p _ (zG hp _) zB⟩
theorem aeg (T:Txt K mg A) {k:Nat} (hk:1≤k) {N:Nm}{H:Hp}{a:Addr}{t:At}{f:Bool} (h:Fg A N H f a t):∃ (C dx:Addr) (fs:List (Str × V)) (M:dw P w K mg base bR k C "atoms"),H a=some (.ins C dx fs)∧fs.lookup ‹"atoms"› = none∧M.t8=[]∧M.sp=aaM A t.c:=by
 obtain⟨dx,h⟩:=h
 cases t with
 | is wd pp=>exact⟨_,dx,_,⟨_,_,_,_,[],[],T.jg,T.K8,(Ln T).mono hk,T.Ib,.nil⟩,h,rfl,rfl,rfl⟩
 | cmp hw m=>exact⟨_,dx,_,⟨_,_,_,_,[],[],T.aC,T.yj,(Lp T).mono hk,T.vR,.nil⟩,h,rfl,rfl,rfl⟩
theorem Lq (T:Txt K mg A):aV P w K mg base bR 2 A.oh A.ou ["self"] (aef A):=by
 refine T.FJ.ok Em (fun vs H Q E h=>?_) (fun cdv A0 outer s H vs Q E hr h=>?_)
 · obtain⟨a,dx,b,N,t,rfl,_⟩:=h
   rfl
 obtain⟨a,dx,b,N,t,rfl,ha,hb,q⟩:=h
 obtain⟨Je,e1⟩:∃ k:Nat,k=1:=⟨_,rfl⟩
 refine⟨_,(zE (zK (w5 (CX:=bR) (k:=Je) ‹hr› zN (zM (pv 0) rfl)))),?_⟩
 subst e1
 obtain⟨C,XC,fs,M,h1,h2,m1,m2⟩:=aeg (P:=P) (w:=w) (base:=base) T (Nat.le_refl _) hb
 refine⟨_,rfl,a,_,dx,_,_,rfl,ha,T.rn,T.nO,rfl,b,C,XC,fs,M,rfl,h1,h2,?_⟩
 dsimp only [Qx]
 rw [m1,m2]
 exact⟨b,N,t,rfl,hb,rfl,q⟩
end
theorem yC {H:Hp}{x dx:Addr} (nx:H x=none) (nd:H dx=none) (o:HO):aB H (upd (upd H dx (.own x)) x o):=fun b u e=>by
 rw [zI (zH e nx),zI (zH e nd)];exact e
def UT (N:Nm) (S:List oZ) (t:At):Prop:=∃ r,gU S r∧r.nm=N 0∧UG r.kd t
def aaN (A:cT) (j:Nat):Sp:=fun vs H Q _=>∃ a N t d kvs S,vs=[.ref a,.ref d]∧Fg A N H false a t∧t.c=j∧H d=some (.dK kvs)∧Rc A H kvs S∧UT N S t∧∀ a' H',aB H H'→Fg A N H' true a' t→Q (.ref a') H'
def aeh (A:cT):Sp:=fun vs H Q _=>∃ a dx b N t d kvs S,vs=[.ref a,.ref d]∧H a=some (oNo A dx b)∧Fg A N H false b t∧H d=some (.dK kvs)∧Rc A H kvs S∧UT N S t∧∀ a' H',aB H H'→Og A N H' true (.ref a') (t,true)→Q (.ref a') H'
def aei (A:cT):Sp:=fun vs H Q _=>∃ x N s p S rg l,vs=[x,.ref p]∧Og A N H true x s∧Lj A H p S rg l∧Et S (N s.1.i)∧N s.1.i∈l∧Gr rg N s.1=none∧∀ b H',aB H H'→Fg A N H' true b s.1→Q (.ref b) H'
theorem Lj.same {A:cT}{H H':Hp} (s:aB H H') {p:Addr}{S:List oZ}{rg:Rg}{l:List Str} (h:Lj A H p S rg l):Lj A H' p S rg l:=by
 obtain⟨cs,g,c,ov,ct,L,R⟩:=h
 exact⟨cs,g,c,ov,ct,Xy s L,R.kq (.of s)⟩
section
variable {P:Program}{w:World}{K:W.Frag}{mg:Str→Option Value}{base:Heap}{A:cT}
theorem xE {t c d:Value}{a b:Bool} (h1:W.kitOne K t c=some a) (h2:W.kitOne K t d=some b):W.kitAny K t [c,d]=some (a || b):=by
 show (match W.kitOne K t c with | some true=>some true | some false=>(match W.kitOne K t d with | some true=>some true | some false=>some false | none=>none) | none=>none)=_
 rw [h1,h2]
 cases a <;> cases b <;> rfl
theorem aej (b:Bool):Cv YN (wdB b)=.bl b:=by
 cases b
 · show Cv YN ‹"no"› = _;decide +kernel
 · show Cv YN ‹"yes"› = _;decide +kernel
theorem Gu (T:Txt K mg A):aV P w K mg base bR 6 A.my A.mz ["self","kinds"] (aaN A 1):=by
 have jL:=Ep (P:=P) (w:=w) (base:=base) T
 refine T.Dq.ok kI (fun vs H Q E h=>?_) (fun cdv A0 outer s H vs Q E hr h=>?_)
 · obtain⟨a,N,t,d,kvs,S,rfl,_⟩:=h
   rfl
 obtain⟨a,N,t,d,kvs,S,rfl,⟨dx,ha⟩,hj,hd,hK,hG,q⟩:=h
 refine⟨_,(zC (zQ (i:=2) kI.nd rfl ‹0› (JS (xM hr) (pv 1) (zM (pv 0) rfl) ⟨rfl,rfl,rfl,rfl⟩))
     (zC (yB (jY (yN (zR rY (by rfl) T.aF Bt.isinstance (zA (pv 2) (zA (yA (zA (zr rfl T.Xj) (zA (zr rfl T.aaq) zD))) zD))))) (zE qd) zP)
     (zC (zQ (i:=3) kI.nd rfl ‹0› (yF (CX:=bR) (k:=4) ‹hr› zN (pv 2) (zA (zM (pv 0) rfl) zD)))
     (zC (yB (jY (yN (yF (CX:=bR) (k:=4) ‹hr› zN (pv 2) (zA (pv 3) zD)))) (zE qd) zP)
     (zE (zK (yY T.Up jL ‹hr› rfl T.aao T.Fy .nil zN (zA (zM (pv 0) rfl) (zA (zM (pv 0) rfl) (zA (yF (CX:=bR) (k:=4) ‹hr› zN (pv 2) (zA (pv 3) zD)) zD)))))))))),?_⟩
 cases t with
 | cmp _ _=>cases hj
 | is wd pp =>
   have ha:H a=some (oIs A dx (N 0) wd .non):=ha
   obtain⟨r,hr1,hr2,V2⟩:=hG
   obtain⟨k,k1,k2⟩:=hK _ hr1
   rw [hr2] at k1
   refine⟨_,rfl,d,rfl,.inl ⟨kvs,.inl hd⟩,_,rfl,a,_,dx,_,_,rfl,ha,T.jg,T.jA,rfl,_,jd.k (k:=.inr (N 0)) hd,?_⟩
   rw [k1]
   refine⟨_,rfl,(by show 2≤sizeLine;decide),fun t1 ht1=>?_⟩
   have s1:=zG ht1 (.tup [.ref A.bI,.ref A.cN])
   have ha1:=s1 _ _ ha
   have qy:=k2.kq (.of s1)
   generalize r.kd=x at V2 qy
   cases x with
   | yn =>
     obtain⟨b,rfl,rfl⟩:=V2
     obtain⟨dk,q',qy,_⟩:=qy
     have qy:(upd H t1 (.tup [.ref A.bI,.ref A.cN])) k=some (.ins A.bI dk [("low",.int 0),("high",.int 1)]):=qy
     refine⟨_,t1,_,_,_,rfl,zB,rfl,.old (T.Uc _ k dk _ qy),xE T.DR T.FT,_,rfl,aN ?_⟩
     refine⟨_,rfl,k,_,dk,_,JAn T,rfl,qy,rfl,_,rfl,a,_,dx,_,_,rfl,ha1,T.jg,T.mJ,rfl,_,wdB b,rfl,?_⟩
     rw [aej]
     refine⟨_,rfl,k,_,dk,_,JF T,rfl,qy,rfl,_,rfl,_,some b,rfl,_,rfl,aN ?_⟩
     refine⟨_,rfl,a,_,dx,_,_,rfl,ha1,T.jg,T.jA,rfl,_,rfl,a,_,dx,_,_,rfl,ha1,T.jg,T.mJ,rfl,?_⟩
     refine⟨_,rfl,k,_,dk,_,JK T,rfl,qy,rfl,_,rfl,_,b,rfl,?_⟩
     intro x Hl nx nd ne
     refine⟨x,Hl,_,_,_,rfl,zB,rfl,?_⟩
     rw [yD]
     exact q x _ (s1.trans (yC nx nd _)) ⟨Hl,zB⟩
   | pk ws =>
     obtain⟨qt,j,hj',rfl⟩:=V2
     obtain⟨dk,q',qy,hq⟩:=qy
     have hq:=(hq ws rfl).2
     have qy:(upd H t1 (.tup [.ref A.bI,.ref A.cN])) k=some (oPk A dk (ws.length - 1) q'):=qy
     refine⟨_,t1,_,_,_,rfl,zB,rfl,.old (T.Xk _ k dk _ qy),xE T.FW T.Iu,_,rfl,aN ?_⟩
     refine⟨_,rfl,k,_,dk,_,apR T,rfl,qy,rfl,_,rfl,a,_,dx,_,_,rfl,ha1,T.jg,T.mJ,rfl,_,.str wd,rfl,?_⟩
     refine⟨_,rfl,k,_,dk,_,JFP T,rfl,qy,rfl,_,rfl,k,dk,q',ws,_,j,wd,rfl,qy,hq,qt,hj',_,rfl,aN ?_⟩
     refine⟨_,rfl,a,_,dx,_,_,rfl,ha1,T.jg,T.jA,rfl,_,rfl,a,_,dx,_,_,rfl,ha1,T.jg,T.mJ,rfl,?_⟩
     refine⟨_,rfl,k,_,dk,_,JKP T,rfl,qy,rfl,_,rfl,k,dk,q',ws,_,j,wd,rfl,qy,hq,qt,hj',?_⟩
     intro x Hl nx nd ne
     refine⟨x,Hl,_,_,_,rfl,zB,rfl,?_⟩
     rw [yD]
     exact q x _ (s1.trans (yC nx nd _)) ⟨Hl,zB⟩
   | nm _=>exact V2.elim
   | mo _ _=>exact V2.elim
   | wh _ _=>exact V2.elim
theorem Gv (T:Txt K mg A):aV P w K mg base bR 6 A.gJ A.gK ["self","kinds"] (aaN A 0):=by
 have iC:=Er (P:=P) (w:=w) (base:=base) T
 refine T.sX.ok rD (fun vs H Q E h=>?_) (fun cdv A0 outer s H vs Q E hr h=>?_)
 · obtain⟨a,N,t,d,kvs,S,rfl,_⟩:=h
   rfl
 obtain⟨a,N,t,d,kvs,S,rfl,⟨dx,ha⟩,hj,hd,hK,hG,q⟩:=h
 refine⟨_,(zC (yB (PW.pt (xK (zL (PK (xM hr)) (zM (pv 0) rfl) (pv 1) (by rfl)) (xC (jY (yN (zR rY (by rfl) T.aF Bt.isinstance (zA (Bu (xM hr) (pv 1) (zM (pv 0) rfl) (fun _ _=>rfl)) (zA (yA (zA (zr rfl T.Xi) (zA (zr rfl T.Xe) zD))) zD)))))))) (zE qd) zP)
     (zE (zK (yY T.Eh iC ‹hr› rfl T.Hi T.mF .nil zN (zA (zM (pv 0) rfl) (zA (zM (pv 0) rfl) (zA (zM (pv 0) rfl) zD))))))),?_⟩
 cases t with
 | is _ _=>cases hj
 | cmp hw m =>
   have ha:H a=some (YZ A dx (N 0) hw m):=ha
   obtain⟨r,hr1,hr2,V2⟩:=hG
   obtain⟨k,k1,k2⟩:=hK _ hr1
   rw [hr2] at k1
   have g0:jd H d (.str (N 0)) (some (.ref k)):=by
     have:=jd.k (k:=.inr (N 0)) hd
     rw [k1] at this
     exact this
   refine⟨_,rfl,a,_,dx,_,_,rfl,ha,T.aC,T.cJ,rfl,_,rfl,d,_,rfl,g0,_,rfl,bT ?_⟩
   refine⟨_,rfl,_,rfl,a,_,dx,_,_,rfl,ha,T.aC,T.cJ,rfl,d,_,rfl,g0,(by show 2≤sizeLine;decide),fun t1 ht1=>?_⟩
   have s1:=zG ht1 (.tup [.ref A.dB,.ref A.dh])
   have ha1:=s1 _ _ ha
   have qy:=k2.kq (.of s1)
   generalize r.kd=x at V2 qy
   cases x with
   | yn=>exact V2.elim
   | pk _=>exact V2.elim
   | nm hi =>
     obtain⟨dk,q',qy,_⟩:=qy
     have qy:(upd H t1 (.tup [.ref A.dB,.ref A.dh])) k=some (.ins A.dh dk [("low",.int 0),("high",.int hi)]):=qy
     refine⟨_,t1,_,_,_,rfl,zB,rfl,.old (T.Ui _ k dk _ qy),xE T.Ec T.Ed,_,rfl,aN ?_⟩
     refine⟨_,rfl,a,_,dx,_,_,rfl,ha1,T.aC,T.cJ,rfl,_,rfl,a,_,dx,_,_,rfl,ha1,T.aC,T.dM,rfl,_,rfl,a,_,dx,_,_,rfl,ha1,T.aC,T.bU,rfl,?_⟩
     intro x Hl nx nd ne
     refine⟨x,Hl,_,_,_,rfl,zB,rfl,?_⟩
     rw [yD]
     exact q x _ (s1.trans (yC nx nd _)) ⟨Hl,zB⟩
   | mo lo hi =>
     obtain⟨dk,q',qy,_⟩:=qy
     have qy:(upd H t1 (.tup [.ref A.dB,.ref A.dh])) k=some (.ins A.iT dk [("low",.int lo),("high",.int hi)]):=qy
     refine⟨_,t1,_,_,_,rfl,zB,rfl,.old (T.Ug _ k dk _ qy),xE T.DY T.Ea,_,rfl,aN ?_⟩
     refine⟨_,rfl,a,_,dx,_,_,rfl,ha1,T.aC,T.cJ,rfl,_,rfl,a,_,dx,_,_,rfl,ha1,T.aC,T.dM,rfl,_,rfl,a,_,dx,_,_,rfl,ha1,T.aC,T.bU,rfl,?_⟩
     intro x Hl nx nd ne
     refine⟨x,Hl,_,_,_,rfl,zB,rfl,?_⟩
     rw [yD]
     exact q x _ (s1.trans (yC nx nd _)) ⟨Hl,zB⟩
   | wh lo hi =>
     obtain⟨dk,q',qy,_⟩:=qy
     have qy:(upd H t1 (.tup [.ref A.dB,.ref A.dh])) k=some (.ins A.dB dk [("low",.int lo),("high",.int hi)]):=qy
     refine⟨_,t1,_,_,_,rfl,zB,rfl,.old (T.Ud _ k dk _ qy),xE T.DW T.DX,_,rfl,aN ?_⟩
     refine⟨_,rfl,a,_,dx,_,_,rfl,ha1,T.aC,T.cJ,rfl,_,rfl,a,_,dx,_,_,rfl,ha1,T.aC,T.dM,rfl,_,rfl,a,_,dx,_,_,rfl,ha1,T.aC,T.bU,rfl,?_⟩
     intro x Hl nx nd ne
     refine⟨x,Hl,_,_,_,rfl,zB,rfl,?_⟩
     rw [yD]
     exact q x _ (s1.trans (yC nx nd _)) ⟨Hl,zB⟩
theorem aek (T:Txt K mg A) {k:Nat} (hk:6≤k) {N:Nm}{H:Hp}{a:Addr}{t:At}{f:Bool} (h:Fg A N H f a t):∃ (C dx:Addr) (fs:List (Str × V)) (M:dw P w K mg base bR k C "settled"),H a=some (.ins C dx fs)∧fs.lookup ‹"settled"› = none∧M.t8=[]∧M.sp=aaN A t.c:=by
 obtain⟨dx,h⟩:=h
 cases t with
 | is wd pp=>exact⟨_,dx,_,⟨_,_,_,_,[],[],T.jg,T.Gh,(Gu T).mono hk,T.Dr,.nil⟩,h,rfl,rfl,rfl⟩
 | cmp hw m=>exact⟨_,dx,_,⟨_,_,_,_,[],[],T.aC,T.uW,(Gv T).mono hk,T.sY,.nil⟩,h,rfl,rfl,rfl⟩
theorem Gw (T:Txt K mg A):aV P w K mg base bR 7 A.kj A.km ["self","kinds"] (aeh A):=by
 have mO:=Es (P:=P) (w:=w) (base:=base) T
 refine T.Ay.ok yo (fun vs H Q E h=>?_) (fun cdv A0 outer s H vs Q E hr h=>?_)
 · obtain⟨a,dx,b,N,t,d,kvs,S,rfl,_⟩:=h
   rfl
 obtain⟨a,dx,b,N,t,d,kvs,S,rfl,ha,hb,hd,hK,hG,q⟩:=h
 obtain⟨Q5,e1⟩:∃ k:Nat,k=6:=⟨_,rfl⟩
 refine⟨_,(zE (zK (yY T.Uq mO ‹hr› rfl T.YT T.qX .nil zN (zA (yF (CX:=bR) (k:=Q5) ‹hr› zN (zM (pv 0) rfl) (zA (pv 1) zD)) zD)))),?_⟩
 subst e1
 obtain⟨C,XC,fs,M,h1,h2,m1,m2⟩:=aek (P:=P) (w:=w) (base:=base) T (Nat.le_refl _) hb
 refine⟨_,rfl,a,_,dx,_,_,rfl,ha,T.rn,T.nO,rfl,b,C,XC,fs,M,rfl,h1,h2,_,rfl,?_⟩
 rw [m1,m2]
 refine⟨b,N,t,d,kvs,S,rfl,hb,rfl,hd,hK,hG,fun b' H' s' hb'=>?_⟩
 intro x Hl nx nd ne
 refine⟨x,Hl,_,rfl,zB,rfl,?_⟩
 rw [yD]
 have s2:=yC nx nd (oNo A Hl b')
 exact q x _ (s'.trans s2) ⟨x,rfl,.inr ⟨rfl,Hl,b',zB,hb'.kq (.of s2)⟩⟩
theorem mAt (T:Txt K mg A) {N:Nm}{H:Hp}{x:V}{s:Sy} (h:Og A N H true x s):∃ (a C dx:Addr) (fs:List (Str × V)) (M:dw P w K mg base bR 2 C "atoms"),x=.ref a∧H a=some (.ins C dx fs)∧fs.lookup ‹"atoms"› = none∧M.t8=[]∧∀ (Q:V→Hp→Prop) E,(∀ b la H1,aB H H1→H1 la=some (.lst [.ref b])→Fg A N H1 true b s.1→Q (.ref la) H1)→M.sp [x] H Q E:=by
 obtain⟨a,rfl,h⟩:=h
 rcases h with ⟨_,h⟩ | ⟨_,dx,b,h,hb⟩
 · obtain⟨C,dx,fs,M,h1,h2,m1,m2⟩:=aeg (P:=P) (w:=w) (base:=base) T (k:=2) (by decide) h
   refine⟨a,C,dx,fs,M,rfl,h1,h2,m1,fun Q E q=>?_⟩
   rw [m2]
   exact⟨a,N,s.1,rfl,h,rfl,fun p H' s' e=>q a p H' s' e (h.kq (.of s'))⟩
 · refine⟨a,_,dx,_,⟨_,_,_,_,[],[],T.rn,T.IK,Lq T,T.FN,.nil⟩,rfl,h,rfl,rfl,fun Q E q=>?_⟩
   exact⟨a,dx,b,N,s.1,rfl,h,hb,fun p H' s' e=>q b p H' s' e (hb.kq (.of s'))⟩
theorem oH (T:Txt K mg A):aV P w K mg base bR 7 A.cR A.fM ["self","look"] (aei A):=by
 refine T.qu.ok iY (fun vs H Q E h=>?_) (fun cdv A0 outer s H vs Q E hr h=>?_)
 · obtain⟨x,N,s,p,S,rg,l,rfl,_⟩:=h
   rfl
 obtain⟨x,N,s,p,S,rg,l,rfl,hs,hL,hz,hm,hn,q⟩:=h
 obtain⟨Je,e1⟩:∃ k:Nat,k=2:=⟨_,rfl⟩
 obtain⟨Oo,e2⟩:∃ k:Nat,k=6:=⟨_,rfl⟩
 refine⟨_,(zC (lu PassesOwn.never rfl (xH (w5 (CX:=bR) (k:=Je) ‹hr› zN (pv 0))) (yW (i:=2) iY.nd rfl ‹0›) (zE (yB (zL xO (yF (CX:=bR) (k:=Oo) ‹hr› zN (pv 2) (zA (pv 1) zD)) yM (zO _)) (zE (zK (pv 2))) zP)))
     (zE (zK yM))),?_⟩
 subst e1 e2
 obtain⟨a1,C1,dx1,fs1,M,ey,h1,hl,hdv,hsp⟩:=mAt (P:=P) (w:=w) (base:=base) T hs
 refine⟨_,rfl,a1,C1,dx1,fs1,M,ey,h1,hl,?_⟩
 dsimp only [Qx]
 rw [hdv]
 refine hsp _ _ fun b la H1 s1 e1 hb=>?_
 refine⟨la,rfl,⟨_,cB.of e1⟩,?_⟩
 refine xL (xs:=[.ref b]) (fun i σ G=>i=0∧G=H1∧σ=[some x,some (.ref p),none]) ⟨rfl,rfl,rfl⟩ (fun i σ G _ hh=>by rw [hh.2.1];exact cB.of e1) (fun i y σ G hy hw=>?_) (fun σ G hw=>?_)
 · obtain⟨rfl,rfl,rfl⟩:=hw
   cases hy
   obtain⟨C2,XC,fs2,M2,h2,hl2,ap1,ap2⟩:=aaL (P:=P) (w:=w) (base:=base) T (k:=6) (Nat.le_refl _) hb
   refine⟨_,rfl,b,C2,XC,fs2,M2,rfl,h2,hl2,_,rfl,?_⟩
   rw [ap1,ap2]
   refine⟨b,N,s.1,p,S,rg,l,rfl,hb,rfl,hL.same s1,hz,hm,fun H2 s2=>?_⟩
   rw [hn]
   exact⟨rfl,_,rfl,bT ⟨_,rfl,q _ _ (s1.trans s2) (hb.kq (.of s2))⟩⟩
 · exact absurd hw.1 (Nat.succ_ne_zero 0)
theorem mSt (T:Txt K mg A) {N:Nm}{H:Hp}{x:V}{s:Sy} (h:Og A N H false x s):∃ (a C dx:Addr) (fs:List (Str × V)) (M:dw P w K mg base bR 7 C "settled"),x=.ref a∧H a=some (.ins C dx fs)∧fs.lookup ‹"settled"› = none∧M.t8=[]∧∀ (Q:V→Hp→Prop) E d kvs S,H d=some (.dK kvs)→Rc A H kvs S→UT N S s.1→(∀ y H1,aB H H1→Og A N H1 true y s→Q y H1)→M.sp [x,.ref d] H Q E:=by
 obtain⟨t,n⟩:=s
 obtain⟨a,rfl,h⟩:=h
 rcases h with ⟨e,h⟩ | ⟨e,dx,b,h,hb⟩
 · cases e
   obtain⟨C,dx,fs,M,h1,h2,m1,m2⟩:=aek (P:=P) (w:=w) (base:=base) T (k:=7) (by decide) h
   refine⟨a,C,dx,fs,M,rfl,h1,h2,m1,fun Q E d kvs S hd hK hG q=>?_⟩
   rw [m2]
   exact⟨a,N,t,d,kvs,S,rfl,h,rfl,hd,hK,hG,fun a' H' s' h'=>q _ _ s' ⟨a',rfl,.inl ⟨rfl,h'⟩⟩⟩
 · cases e
   refine⟨a,_,dx,_,⟨_,_,_,_,[],[],T.rn,T.Ei,Gw T,T.Az,.nil⟩,rfl,h,rfl,rfl,fun Q E d kvs S hd hK hG q=>?_⟩
   exact⟨a,dx,b,N,t,d,kvs,S,rfl,h,hb,hd,hK,hG,fun a' H' s' h'=>q _ _ s' h'⟩
theorem mSu (T:Txt K mg A) {N:Nm}{H:Hp}{x:V}{s:Sy} (h:Og A N H true x s):∃ (a C dx:Addr) (fs:List (Str × V)) (M:dw P w K mg base bR 7 C "sure"),x=.ref a∧H a=some (.ins C dx fs)∧fs.lookup ‹"sure"› = none∧M.t8=[]∧∀ H1 (Q:V→Hp→Prop) E p S rg l,Og A N H1 true x s→Lj A H1 p S rg l→Et S (N s.1.i)→N s.1.i∈l→(∀ H',aB H1 H'→Q (tv (tri rg N s)) H')→M.sp [x,.ref p] H1 Q E:=by
 obtain⟨t,n⟩:=s
 obtain⟨a,rfl,h⟩:=h
 rcases h with ⟨e,h⟩ | ⟨e,dx,b,h,hb⟩
 · cases e
   obtain⟨C,dx,fs,M,h1,h2,m1,m2⟩:=aaL (P:=P) (w:=w) (base:=base) T (k:=7) (by decide) h
   refine⟨a,C,dx,fs,M,rfl,h1,h2,m1,fun H1 Q E p S rg l hS hL hz hm q=>?_⟩
   rw [m2]
   obtain⟨a',ea,hS⟩:=hS
   cases ea
   rcases hS with ⟨_,hS⟩ | ⟨z,_⟩
   · exact⟨a,N,t,p,S,rg,l,rfl,hS,rfl,hL,hz,hm,q⟩
   · cases z
 · cases e
   refine⟨a,_,dx,_,apZ T,rfl,h,rfl,rfl,fun H1 Q E p S rg l hS hL hz hm q=>?_⟩
   obtain⟨a',ea,hS⟩:=hS
   cases ea
   rcases hS with ⟨z,_⟩ | ⟨_,Hl,b',h',hb'⟩
   · cases z
   · exact⟨a,Hl,b',N,t,p,S,rg,l,rfl,h',hb',hL,hz,hm,q⟩
theorem mFo (T:Txt K mg A) {N:Nm}{H:Hp}{x:V}{s:Sy} (h:Og A N H true x s):∃ (a C dx:Addr) (fs:List (Str × V)) (M:dw P w K mg base bR 7 C "first_open"),x=.ref a∧H a=some (.ins C dx fs)∧fs.lookup ‹"first_open"› = none∧M.t8=[]∧M.sp=aei A:=by
 obtain⟨t,n⟩:=s
 obtain⟨a,rfl,h⟩:=h
 rcases h with ⟨_,dx,h⟩ | ⟨_,dx,b,h,_⟩
 · cases t with
   | is wd pp=>exact⟨a,_,dx,_,⟨_,_,_,_,[],[],T.jg,T.yh,oH T,T.fO,.nil⟩,rfl,h,rfl,rfl,rfl⟩
   | cmp hw m=>exact⟨a,_,dx,_,⟨_,_,_,_,[],[],T.aC,T.qw,oH T,T.fO,.nil⟩,rfl,h,rfl,rfl,rfl⟩
 · exact⟨a,_,dx,_,⟨_,_,_,_,[],[],T.rn,T.wz,oH T,T.fO,.nil⟩,rfl,h,rfl,rfl,rfl⟩
end
def keyOf (z:Str):List Key:=[.inr z,.inl 0]
def rK (n:Str):List V:=[.str ‹"ask"›,.str n,.int 0]
def Jf:List V:=[.str ‹"end"›]
def mQ (H:Hp) (x:V) (t:List V):Prop:=∃ a,x=.ref a∧H a=some (.tup t)
theorem mQ.kq {H H':Hp} (f:Kq H H') {x:V}{t:List V} (h:mQ H x t):mQ H' x t:=by
 obtain⟨a,e,h1⟩:=h
 exact⟨a,e,f _ _ h1 trivial⟩
abbrev Ct:=Option (Str × Int)
def Q6 (H:Hp) (v:V):Ct→Prop
 | none=>v=.non
 | some q=>mQ H v [.str q.1,.int 0,.int q.2]
theorem Q6.kq {H H':Hp} (f:Kq H H') {v:V}{t:Ct} (h:Q6 H v t):Q6 H' v t:=by
 cases t with
 | none=>exact h
 | some q=>exact mQ.kq f h
def XD (H:Hp) (bx:Addr) (S:List oZ) (rg:Rg):Prop:=∃ b,H bx=some (.dT b)∧∀ r,gU S r→(∃ t,eU b (keyOf r.nm)=some (.ref t)∧H t=some (.tup [.int (rg r.nm).1,.int (rg r.nm).2]))∨(eU b (keyOf r.nm)=none∧rg r.nm=(r.kd.lo,r.kd.hi))
theorem XD.kq {H H':Hp} (f:Kq H H') {bx:Addr}{S:List oZ}{rg:Rg} (h:XD H bx S rg):XD H' bx S rg:=by
 obtain⟨b,h1,h2⟩:=h
 refine⟨b,f _ _ h1 trivial,fun r hr=>?_⟩
 rcases h2 r hr with ⟨t,a,b⟩ | a
 · exact .inl ⟨t,a,f _ _ b trivial⟩
 · exact .inr a
structure Gs where
 l:List Str
 L:List (List V)
 D:List Str
 ov:Bool
 ct:Ct
structure Cst (A:cT) (N:Nm) (H0:Hp) (c:GA) (S:List oZ) (rg:Rg) (Pt:Addr) (td:Array Value):Prop where
 pa:Rb A N H0 c.pa S
 bx:∃ b,H0 c.bx=some (.dT b)∧∀ r,gU S r→(∃ t,eU b (keyOf r.nm)=some (.ref t)∧H0 t=some (.tup [.int (rg r.nm).1,.int (rg r.nm).2]))∨(eU b (keyOf r.nm)=none∧rg r.nm=(r.kd.lo,r.kd.hi))
 tb:H0 Pt=some (.mW td)
 kd:∃ kvs,H0 c.kd=some (.dK kvs)∧Rc A H0 kvs S
 ed:∃ kvs,H0 c.ed=some (.dK kvs)∧EdR kvs S
 tg:H0 c.tg=some (.dK [])
 gs:GS N S
structure lK (A:cT) (N:Nm) (H0:Hp) (c:GA) (S:List oZ) (rg:Rg) (Pt:Addr) (td:Array Value) (g:Addr) (H:Hp) (s:Gs):Prop where
 same:aB H0 H
 cst:Cst A N H0 c S rg Pt td
 ng:H0 g=none
 Rf:H0 c.aq=none
 Rh:H0 c.lg=none
 UW:H0 c.db=none
 ld:c.lg≠c.db
 go:∃ cv,H g=some (oGo A c s.ov cv)∧Q6 H cv s.ct
 aq:∃ kvs,H c.aq=some (.dK kvs)∧AqR H kvs rg s.l∧∀ z d,eU kvs (.inr z)=some (.ref d)→H0 d=none∧d≠c.aq∧∀ z',eU kvs (.inr z')=some (.ref d)→z'=z
 lg:∃ ts,H c.lg=some (.lst ts)∧Paired (mQ H) ts s.L
 db:H c.db=some (.lst (s.D.map V.str))
section
variable {A:cT}{N:Nm}{H0 H H':Hp}{c:GA}{S:List oZ}{rg:Rg}{Pt:Addr}{td:Array Value}{g:Addr}{s:Gs}
theorem lK.rk (h:lK A N H0 c S rg Pt td g H s):∃ cv,RkS A H g c s.ov cv S rg s.l∧Q6 H cv s.ct:=by
 obtain⟨k,k1,k2⟩:=h.cst.ed
 obtain⟨a,a1,a2,_⟩:=h.aq
 obtain⟨cv,g1,g2⟩:=h.go
 exact⟨cv,⟨g1,h.same _ _ h.cst.tg,⟨k,h.same _ _ k1,k2⟩,⟨a,a1,a2⟩⟩,g2⟩
theorem lK.mono (h:lK A N H0 c S rg Pt td g H s) (f:aB H H'):lK A N H0 c S rg Pt td g H' s:=by
 obtain⟨a,a1,a2,a3⟩:=h.aq
 obtain⟨t,t1,t2⟩:=h.lg
 obtain⟨cv,g1,g2⟩:=h.go
 exact⟨h.same.trans f,h.cst,h.ng,h.Rf,h.Rh,h.UW,h.ld,⟨cv,f _ _ g1,g2.kq (.of f)⟩,⟨a,f _ _ a1,a2.kq (.of f),a3⟩,⟨t,f _ _ t1,zJ t2 fun _ _=>mQ.kq (.of f)⟩,f _ _ h.db⟩
theorem rM {H0 H:Hp}{m:Addr} (s:aB H0 H) (n:H0 m=none) (o:HO):aB H0 (upd H m o):=fun x u hx=>by
 rw [zI (zH hx n)];exact s _ _ hx
theorem Oq {m:Addr}{o u:HO}{e:List V} (hm:H m=some u) (hu:∀ t,u≠.tup t) {x:V} (h:mQ H x e):mQ (upd H m o) x e:=by
 obtain⟨a,e,h1⟩:=h
 exact⟨a,e,by rw [zI (yJ h1 hm fun z=>hu _ z.symm)];exact h1⟩
theorem Jg {m:Addr}{o u:HO}{L:List (List V)} (hm:H m=some u) (hu:∀ t,u≠.tup t) {ts:List V} (h:Paired (mQ H) ts L):Paired (mQ (upd H m o)) ts L:=zJ h fun x t z=>Oq hm hu z
theorem Ot {m:Addr}{o u:HO}{v:V}{t:Ct} (hm:H m=some u) (hu:∀ t,u≠.tup t) (h:Q6 H v t):Q6 (upd H m o) v t:=by
 cases t with
 | none=>exact h
 | some q=>exact Oq hm hu h
theorem U0 {m:Addr}{o u:HO}{l:List Str}{kvs:List (Key × V)} (hm:H m=some u) (hu:∀ t,u≠.dK t) (hv:∀ t,u≠.tup t) (h:AqR H kvs rg l):AqR (upd H m o) kvs rg l:=⟨h.1,fun z hz=>by
 obtain⟨d,t,h2,h3,h4⟩:=h.2.1 z hz
 exact⟨d,t,h2,by rw [zI (yJ h3 hm fun z=>hu _ z.symm)];exact h3,by rw [zI (yJ h4 hm fun z=>hv _ z.symm)];exact h4⟩,h.2.2⟩
theorem lK.setG (h:lK A N H0 c S rg Pt td g H s) (o:Bool) {cv:V}{ct:Ct} (hc:Q6 H cv ct):lK A N H0 c S rg Pt td g (upd H g (oGo A c o cv)) ⟨s.l,s.L,s.D,o,ct⟩:=by
 obtain⟨a,a1,a2,a3⟩:=h.aq
 obtain⟨t,t1,t2⟩:=h.lg
 obtain⟨cv',g1,g2⟩:=h.go
 refine⟨rM h.same h.ng _,h.cst,h.ng,h.Rf,h.Rh,h.UW,h.ld,⟨cv,zB,Ot g1 (fun _ z=>by cases z) hc⟩,⟨a,?_,U0 g1 (fun _ z=>by cases z) (fun _ z=>by cases z) a2,a3⟩,⟨t,?_,Jg g1 (fun _ z=>by cases z) t2⟩,?_⟩
 · rw [zI (yJ a1 g1 (by intro z;cases z))];exact a1
 · rw [zI (yJ t1 g1 (by intro z;cases z))];exact t1
 · rw [zI (yJ h.db g1 (by intro z;cases z))];exact h.db
theorem lK.app (h:lK A N H0 c S rg Pt td g H s) {ts:List V} (t1:H c.lg=some (.lst ts)) {t:Addr}{e:List V} (ht:H t=some (.tup e)):lK A N H0 c S rg Pt td g (upd H c.lg (.lst (ts++[.ref t]))) ⟨s.l,s.L++[e],s.D,s.ov,s.ct⟩:=by
 obtain⟨a,a1,a2,a3⟩:=h.aq
 obtain⟨t',t1',t2⟩:=h.lg
 obtain⟨cv,g1,g2⟩:=h.go
 rw [t1] at t1';cases t1'
 refine⟨rM h.same h.Rh _,h.cst,h.ng,h.Rf,h.Rh,h.UW,h.ld,⟨cv,?_,Ot t1 (fun _ z=>by cases z) g2⟩,⟨a,?_,U0 t1 (fun _ z=>by cases z) (fun _ z=>by cases z) a2,a3⟩,⟨_,zB,xJ (Jg t1 (fun _ z=>by cases z) t2) (.cons ⟨t,rfl,?_⟩ .nil)⟩,?_⟩
 · rw [zI (yJ g1 t1 (by intro z;cases z))];exact g1
 · rw [zI (yJ a1 t1 (by intro z;cases z))];exact a1
 · rw [zI (yJ ht t1 (by intro z;cases z))];exact ht
 · rw [zI (Ne.symm h.ld)];exact h.db
theorem Cst.mW (h:Cst A N H0 c S rg Pt td) (V3:Array Value):Cst A N (upd H0 Pt (.mW V3)) c S rg Pt V3:=by
 have k:Kq H0 (upd H0 Pt (.mW V3)):=fun b o e p=>by
   rw [zI]
   · exact e
   · rintro rfl;rw [h.tb] at e;cases e;exact p
 obtain⟨c1,⟨b,c2,c3⟩,c4,⟨kv,c5,c6⟩,⟨e,c7,c8⟩,c9,c10⟩:=h
 refine⟨c1.kq k,⟨b,k _ _ c2 trivial,fun r hr=>?_⟩,zB,⟨kv,k _ _ c5 trivial,c6.kq k⟩,⟨e,k _ _ c7 trivial,c8⟩,k _ _ c9 trivial,c10⟩
 rcases c3 r hr with ⟨t,h1,h2⟩ | h1
 · exact .inl ⟨t,h1,k _ _ h2 trivial⟩
 · exact .inr h1
theorem lK.mW (h:lK A N H0 c S rg Pt td g H s) {V3:Array Value} (f:∀ b o,b≠Pt→H b=some o→H' b=some o) (ht:H' Pt=some (.mW V3)):lK A N (upd H0 Pt (.mW V3)) c S rg Pt V3 g H' s:=by
 have hP:=h.same _ _ h.cst.tb
 have k:Kq H H':=fun b o e p=>f b o (by rintro rfl;rw [hP] at e;cases e;exact p) e
 have nn:∀ {b:Addr},H0 b=none→upd H0 Pt (.mW V3) b=none:=fun {b} e=>by rw [zI (Ne.symm (zH h.cst.tb e))];exact e
 obtain⟨a,a1,a2,a3⟩:=h.aq
 obtain⟨t,t1,t2⟩:=h.lg
 obtain⟨cv,g1,g2⟩:=h.go
 refine⟨fun b o e=>?_,h.cst.mW V3,nn h.ng,nn h.Rf,nn h.Rh,nn h.UW,h.ld,⟨cv,k _ _ g1 trivial,g2.kq k⟩,⟨a,k _ _ a1 trivial,a2.kq k,fun z d hz=>⟨nn (a3 z d hz).1,(a3 z d hz).2⟩⟩,⟨t,k _ _ t1 trivial,zJ t2 fun _ _=>mQ.kq k⟩,k _ _ h.db trivial⟩
 by_cases e1:b=Pt
 · subst e1;rw [zB] at e;cases e;exact ht
 · rw [zI e1] at e;exact f b o e1 (h.same _ _ e)
theorem aaO {H:Hp}{a:Addr}{o:HO} (h:H a=some o):upd H a o=H:=by
 funext b
 by_cases e:b=a
 · subst e;rw [zB,h]
 · rw [zI e]
end
def U3 (A:cT) (Pt:Addr):Sp:=fun vs H Q _=>∃ N H0 c S rg td g s t e,vs=[.ref g,.ref t]∧lK A N H0 c S rg Pt td g H s∧H t=some (.tup e)∧s.L.length≤1000∧∀ H',lK A N H0 c S rg Pt td g H' ⟨s.l,s.L++[e],s.D,true,s.ct⟩→Q .non H'
def XF (A:cT) (Pt:Addr):Sp:=fun vs H Q _=>∃ N H0 c S rg td g s z k,vs=[.ref g,.str z,.int 0,.int k]∧lK A N H0 c S rg Pt td g H s∧∀ H',lK A N H0 c S rg Pt td g H' ⟨s.l,s.L,s.D,true,some (z,k)⟩→Q .non H'
section
variable {P:Program}{w:World}{K:W.Frag}{mg:Str→Option Value}{base:Heap}{A:cT}{Pt:Addr}
theorem XH (T:Txt K mg A):aV P w K mg base bR 1 A.gG A.gH ["self","row"] (U3 A Pt):=by
 refine T.sV.ok rC (fun vs H Q E h=>?_) (fun cdv A0 outer s H vs Q E hr h=>?_)
 · obtain⟨N,H0,c,S,rg,td,g,s,t,e,rfl,_⟩:=h
   rfl
 obtain⟨N,H0,c,S,rg,td,g,s,t,e,rfl,hG,ht,hl,k⟩:=h
 refine⟨_,(zC (yE (kO PySem.F.plainAttrs_list PySem.F.slot_list_append PySem.F.type_list_append yR (zM (pv 0) rfl) (zA (pv 1) zD)))
     (zE (yG (pv 0) xR rfl))),?_⟩
 obtain⟨ts,t1,t2⟩:=hG.lg
 obtain⟨cv,g1,g2⟩:=hG.go
 have tl:=zX t2
 refine⟨_,rfl,g,_,c.dx,_,_,rfl,g1,T.aA,T.lD,rfl,.inl ⟨rfl,_,cB.of t1⟩,_,rfl,c.lg,_,_,rfl,rfl,t1,yL (m:=1000000) (by omega),?_⟩
 have G1:=hG.app t1 ht
 obtain⟨cv',g1',g2'⟩:=G1.go
 refine⟨_,rfl,g,_,c.dx,_,rfl,g1',T.aA,T.eQ,(by show 11<1000;decide),?_⟩
 exact k _ (G1.setG true g2')
theorem U4 (T:Txt K mg A):aV P w K mg base bR 1 A.iu A.iw ["self","question","thing","cut"] (XF A Pt):=by
 refine T.uJ.ok tL (fun vs H Q E h=>?_) (fun cdv A0 outer s H vs Q E hr h=>?_)
 · obtain⟨N,H0,c,S,rg,td,g,s,z,k,rfl,_⟩:=h
   rfl
 obtain⟨N,H0,c,S,rg,td,g,s,z,k,rfl,hG,q⟩:=h
 refine⟨_,(zC (yG (pv 0) (yA (zA (pv 1) (zA (pv 2) (zA (pv 3) zD)))) rfl)
     (zE (yG (pv 0) xR rfl))),?_⟩
 refine⟨_,rfl,_,rfl,_,rfl,(by show 3≤sizeLine;decide),fun p hp=>?_⟩
 have s1:=zG hp (.tup [.str z,.int 0,.int k])
 have G1:=hG.mono s1
 obtain⟨cv,g1,g2⟩:=G1.go
 have hc:Q6 (upd H p (.tup [.str z,.int 0,.int k])) (.ref p) (some (z,k)):=⟨p,rfl,zB⟩
 refine⟨_,rfl,g,_,c.dx,_,rfl,g1,T.aA,T.gn,(by show 11<1000;decide),?_⟩
 have G2:=G1.setG s.ov hc
 obtain⟨cv',g1',g2'⟩:=G2.go
 refine⟨_,rfl,g,_,c.dx,_,rfl,zB,T.aA,T.eQ,(by show 11<1000;decide),?_⟩
 refine q _ (G2.setG true (cv:=.ref p) (ct:=some (z,k)) ?_)
 exact Ot g1 (fun _ z=>by cases z) hc
def JSp (T:Txt K mg A):dw P w K mg base bR 4 A.az "split_at":=⟨_,_,_,_,[],[],T.aA,T.wk,(U4 (Pt:=Pt) T).mono (by decide),T.uK,.nil⟩
end
end j4
set_option maxHeartbeats 4000000
namespace L2
open PySem PySem.Spec PyProof.Rows PySem.Calls
theorem XJ {X:Cx}:jc X (compareOp .Is) (fun x y H Q=>∃ (o:Option Bool) (d:Bool),(match o with | none=>x=.non | some b=>x=.bl b)∧y=.bl d∧Q (.bl (decide (o=some d))) H):=by
 intro pins s σ H x y v u Q I rx ry h
 obtain⟨o,d,hx,rfl,q⟩:=h
 cases ry
 cases o with
 | none =>
   have hx:x=.non:=hx
   subst hx
   cases rx
   exact wpAny_pure ⟨.bl _,H,I,rfl,q⟩
 | some b =>
   have hx:x=.bl b:=hx
   subst hx
   cases rx
   refine is_bool ⟨.bl _,H,I,rfl,?_⟩
   have e:decide (some b=some d)=(b == d):=by cases b <;> cases d <;> rfl
   rw [e] at q
   exact q
end L2
namespace j4
open PySem L2
seal PE PT PW PA PS o6 PG yz PI PO mY jc Fe cQ mZ vf vq PC zm
local macro_rules | `(tactic| walk_at "rd1") => `(tactic| first
 | (refine And.intro rfl ?_)
 | (refine And.intro (by assumption) ?_)
 | (refine And.intro (fun _ e=>e) ?_)
 | (refine And.intro (aD.str _) ?_) | (refine And.intro (aD.int _) ?_) | (refine And.intro (aD.bl _) ?_) | (refine And.intro aD.non ?_)
 | (refine bT ?_) | (refine aN ?_)
 | (apply Exists.intro))
local macro_rules | `(tactic| walk_at "rd") => `(tactic| repeat (walk_at "rd1"))
def Ou (m lo:Int):Int:=if lo<m then m - 1 else m
def kJ (t:At) (lo:Int):Int:=if t.h="<" then t.m - 1 else if t.h=">" then t.m else Ou t.m lo
def ap4:Sp:=fun vs H Q _=>∃ m lo,vs=[.int m,.int lo]∧Q (.int (Ou m lo)) H
def ael (A:cT):Sp:=fun vs H Q _=>∃ a N t lo,vs=[.ref a,.int lo]∧Fg A N H true a t∧Q (.int (kJ t lo)) H
def ap5 (A:cT) (Pt:Addr):Sp:=fun vs H Q _=>∃ N H0 c S rg td g s b t,vs=[.ref g,.ref b,.int 0]∧lK A N H0 c S rg Pt td g H s∧Fg A N H true b t∧N t.i∈s.l∧∀ H',lK A N H0 c S rg Pt td g H' ⟨s.l,s.L,s.D,true,some (N t.i,kJ t (rg (N t.i)).1)⟩→Q .non H'
theorem GS.ask {N:Nm}{S:List oZ} (h:GS N S) (t:At):Et S (N t.i):=by
 obtain⟨r,hr,e,_⟩:=h.q0
 refine⟨r,hr,?_⟩
 cases t <;> exact e
section
variable {P:Program}{w:World}{K:W.Frag}{mg:Str→Option Value}{base:Heap}{A:cT}{Pt:Addr}
theorem Ov (T:Txt K mg A):aV P w K mg base bR 1 A.sy A.xf ["number","low"] ap4:=by
 refine T.QT.ok Od (fun vs H Q E h=>?_) (fun cdv A0 outer s H vs Q E hr h=>?_)
 · obtain⟨m,lo,rfl,_⟩:=h
   rfl
 obtain⟨m,lo,rfl,q⟩:=h
 refine⟨_,(zE (zK (oK (zL m5 (pv 1) (pv 0) (zO _)) (zU o9 (pv 0) zF) (pv 0)))),?_⟩
 unfold Ou at q
 refine⟨_,rfl,_,rfl,_,_,rfl,rfl,_,rfl,lq (fun d=>?_) (fun d=>?_)⟩
 · rw [if_pos (of_decide_eq_true d)] at q
   exact⟨_,rfl,_,_,rfl,rfl,q⟩
 · rw [if_neg (fun z=>d (decide_eq_true z))] at q
   exact⟨_,rfl,q⟩
theorem Q7 (T:Txt K mg A):aV P w K mg base bR 2 A.vO A.CP ["atom","low"] (ael A):=by
 have Hn:=Ov (P:=P) (w:=w) (base:=base) T
 refine T.T5.ok QZ (fun vs H Q E h=>?_) (fun cdv A0 outer s H vs Q E hr h=>?_)
 · obtain⟨a,N,t,lo,rfl,_⟩:=h
   rfl
 obtain⟨a,N,t,lo,rfl,⟨dx,ha⟩,q⟩:=h
 refine⟨_,(zC (yB (yN (zR yQ (by rfl) T.aF Bt.isinstance (zA (pv 0) (zA (zr rfl T.apO) zD)))) (zE (zK (zT Hn ‹hr› rfl T.Hd T.G8 T.G7 .nil zN (zA (zM (pv 0) rfl) (zA (pv 1) zD))))) zP)
     (zC (yB (zL yS (zM (pv 0) rfl) zS (zO _)) (zE (zK (zU o9 (zM (pv 0) rfl) zF))) zP)
     (zC (yB (zL yS (zM (pv 0) rfl) zS (zO _)) (zE (zK (zM (pv 0) rfl))) zP)
     (zE (zK (zT Hn ‹hr› rfl T.Hd T.G8 T.G7 .nil zN (zA (zM (pv 0) rfl) (zA (pv 1) zD)))))))),?_⟩
 unfold kJ at q
 cases t with
 | is wd pp =>
   have ha:H a=some (oIs A dx (N 0) wd (.int pp)):=ha
   have q:Q (.int (Ou pp lo)) H:=by
     rw [if_neg (by show ‹"="› ≠ ‹"<"›;decide +kernel),if_neg (by show ‹"="› ≠ ‹">"›;decide +kernel)] at q
     exact q
   refine⟨_,rfl,_,_,_,_,rfl,rfl,.old (T.ad2 H a dx _ ha),T.Ub,_,rfl,bT ?_⟩
   exact⟨_,rfl,a,_,dx,_,_,rfl,ha,T.jg,T.q9,rfl,_,rfl,_,_,rfl,q⟩
 | cmp hw m =>
   have ha:H a=some (YZ A dx (N 0) hw m):=ha
   have q:Q (.int (if hw="<" then m - 1 else if hw=">" then m else Ou m lo)) H:=q
   refine⟨_,rfl,_,_,_,_,rfl,rfl,.old (T.Oc H a dx _ ha),T.FZ,_,rfl,aN ?_⟩
   refine⟨_,rfl,a,_,dx,_,_,rfl,ha,T.aC,T.dM,rfl,rfl,_,rfl,?_⟩
   by_cases h1:hw="<"
   · rw [if_pos h1] at q
     exact Jd h1 ⟨_,rfl,a,_,dx,_,_,rfl,ha,T.aC,T.bU,rfl,_,_,rfl,rfl,q⟩
   rw [if_neg h1] at q
   refine qj h1 ⟨_,rfl,a,_,dx,_,_,rfl,ha,T.aC,T.dM,rfl,rfl,_,rfl,?_⟩
   by_cases h2:hw=">"
   · rw [if_pos h2] at q
     exact Jd h2 ⟨_,rfl,a,_,dx,_,_,rfl,ha,T.aC,T.bU,rfl,q⟩
   rw [if_neg h2] at q
   exact qj h2 ⟨_,rfl,a,_,dx,_,_,rfl,ha,T.aC,T.bU,rfl,_,rfl,_,_,rfl,q⟩
theorem Lr (T:Txt K mg A):aV P w K mg base bR 5 A.iy A.iz ["self","atom","thing"] (ap5 A Pt):=by
 have U5:=Q7 (P:=P) (w:=w) (base:=base) T
 refine T.uL.ok kW (fun vs H Q E h=>?_) (fun cdv A0 outer s H vs Q E hr h=>?_)
 · obtain⟨N,H0,c,S,rg,td,g,s,b,t,rfl,_⟩:=h
   rfl
 obtain⟨N,H0,c,S,rg,td,g,s,b,t,rfl,hG,hb,hm,q⟩:=h
 obtain⟨u0,e1⟩:∃ k:Nat,k=3:=⟨_,rfl⟩
 obtain⟨rJ,e2⟩:∃ k:Nat,k=2:=⟨_,rfl⟩
 obtain⟨Ow,e3⟩:∃ k:Nat,k=4:=⟨_,rfl⟩
 refine⟨_,(zE (yB (zL (PK (xM hr)) (zM (pv 1) rfl) (zM (pv 0) rfl) (by rfl)) (zE (yE Tt)) (zC (zQ (i:=3) kW.nd rfl ‹0› (zW zY (yF (CX:=bR) (k:=u0) ‹hr› zN (pv 0) (zA (zM (pv 1) rfl) (zA (pv 2) zD))) zF (fun _ _=>rfl)))
     (zE (yE (yF (CX:=bR) (k:=Ow) ‹hr› zN (pv 0) (zA (zM (pv 1) rfl) (zA (yF (CX:=bR) (k:=rJ) ‹hr› zN (pv 0) (zA (zM (pv 1) rfl) (zA (pv 2) zD))) (zA (zT U5 ‹hr› rfl T.T8 T.T7 T.T6 .nil zN (zA (pv 1) (zA (pv 3) zD))) zD))))))))),?_⟩
 subst e1 e2 e3
 obtain⟨cv,hR,hc⟩:=hG.rk
 obtain⟨C,dx,fs,f1,f2,f3,f4⟩:∃ C dx fs,H b=some (.ins C dx fs)∧Ak K C∧aJ K C "name"∧fs.lookup ‹"name"› = some (.str (N t.i)):=by
   obtain⟨dx,hb⟩:=hb
   cases t with
   | is _ _=>exact⟨_,dx,_,hb,T.jg,T.jA,rfl⟩
   | cmp hw m=>exact⟨_,dx,_,hb,T.aC,T.cJ,rfl⟩
 have hz:=hG.cst.gs.ask t
 refine⟨_,rfl,b,C,dx,fs,_,rfl,f1,f2,f3,f4,_,rfl,g,_,c.dx,gF c s.ov cv,_,rfl,hR.go,T.aA,T.iW,rfl,c.tg,_,rfl,jd.k (k:=.inr (N t.i)) hR.tg,_,rfl,aN ?_⟩
 refine⟨_,rfl,g,_,c.dx,gF c s.ov cv,JKn T,rfl,hR.go,rfl,_,rfl,b,C,dx,fs,_,rfl,f1,f2,f3,f4,_,rfl,?_⟩
 refine⟨g,c,s.ov,cv,S,rg,s.l,N t.i,rfl,hR,hz,hm,fun u H1 s1 hu=>?_⟩
 have b0:jD [V.int (rg (N t.i)).1,V.int (rg (N t.i)).2] ((0:Nat):Int)=some (.int (rg (N t.i)).1):=zV rfl
 have G1:=hG.mono s1
 have R1:=hR.kq (.of s1)
 refine⟨u,_,_,_,rfl,rfl,eY.of (s1 _ _ hu),b0,?_⟩
 refine⟨_,rfl,g,_,c.dx,gF c s.ov cv,JSp (Pt:=Pt) T,rfl,R1.go,rfl,_,rfl,b,C,dx,fs,_,rfl,s1 _ _ f1,f2,f3,f4,?_⟩
 refine⟨_,rfl,g,_,c.dx,gF c s.ov cv,JOw T,rfl,R1.go,rfl,_,rfl,b,C,dx,fs,_,rfl,s1 _ _ f1,f2,f3,f4,_,rfl,?_⟩
 refine⟨g,c,s.ov,cv,S,rg,s.l,N t.i,rfl,R1,hz,?_⟩
 refine⟨_,rfl,_,rfl,b,N,t,_,rfl,hb.kq (.of s1),?_⟩
 exact⟨N,H0,c,S,rg,td,g,s,_,_,rfl,G1,q⟩
def JSb (T:Txt K mg A) {k:Nat} (hk:5≤k):dw P w K mg base bR k A.az "split_by":=⟨_,_,_,_,[],[],T.aA,T.wu,(Lr (Pt:=Pt) T).mono hk,T.uM,.nil⟩
end
abbrev Fi:Array Value:=eZ DL.qual Q3
def soB (rg:Rg) (N:Nm):Sg→Bool
 | none=>true
 | some y=>decide (tri rg N y=some true)
def Ox (rg:Rg) (N:Nm) (s:Gs):Sg→Gs
 | none=>s
 | some y=>if tri rg N y=none then ⟨s.l,s.L,s.D,true,some (N y.1.i,kJ y.1 (rg (N y.1.i)).1)⟩ else s
def ap6 (A:cT) (Pt:Addr):Sp:=fun vs H Q _=>∃ N H0 c S rg g s x sg,vs=[.ref g,x,.int 0]∧lK A N H0 c S rg Pt Fi g H s∧SgR A N H x sg∧(∀ y,sg=some y→N y.1.i∈s.l∧UT N S y.1)∧∀ H',lK A N H0 c S rg Pt Fi g H' (Ox rg N s sg)→Q (.bl (soB rg N sg)) H'
theorem ysC:∀ y∈DL.ys,(aa aK).names.lookup y=some .cell:=by
 intro y hy
 have hy:y∈(["thing","self"]:List Str):=hy
 rcases List.mem_cons.mp hy with rfl | hy
 · rfl
 · rw [List.mem_singleton.mp hy];rfl
theorem U6 {rg:Rg}{N:Nm}{y:Sy} (h:tri rg N y=none):Gr rg N y.1=none:=by
 unfold tri at h
 split at h
 · cases e:Gr rg N y.1 with
   | none=>rfl
   | some b=>rw [e] at h;cases h
 · exact h
section
variable {P:Program}{w:World}{K:W.Frag}{mg:Str→Option Value}{base:Heap}{A:cT}
theorem aem (T:Txt K mg A) (B:BMain mg base) {c0 Pt:Addr} (hc:A.aW.code=.ref c0) (hh:W.codeHdIn K c0 Pt=true):aV P w K mg base bR 8 A.kE A.aW ["self","saying","thing"] (ap6 A Pt):=by
 refine aV.weak (Pt:=Pt) (q:=DL.qual) (pos:=Q3) (sp:=fun vs H Q E=>∃ N H0 c S rg g s x sg,vs=[.ref g,x,.int 0]∧lK A N H0 c S rg Pt Fi g H s∧SgR A N H x sg∧(∀ y,sg=some y→N y.1.i∈s.l∧UT N S y.1)∧((sg=none∧Q (.bl true) H)∨(sg≠none∧∀ c' H',lK A N (upd H0 Pt (.mW (Fi ++ #[.ref c']))) c S rg Pt (Fi ++ #[.ref c']) g H' (Ox rg N s sg)→Q (.bl (soB rg N sg)) H'))) ?_ ?_
 · refine T.Ba.okC gr (fun vs H Q E h=>?_) (fun cdv A0 outer s H vs Q E hcd hr h=>?_)
   · obtain⟨N,H0,c,S,rg,g,s,x,sg,rfl,_⟩:=h
     rfl
   obtain⟨N,H0,c,S,rg,g,s,x,sg,rfl,hG,hS,hm,q⟩:=h
   rw [hc] at hcd
   subst hcd
   refine⟨_,(zC (yB (zL xO (pv 1) yM (zO _)) (zE (zK xR)) zP)
     (zC (zQ (i:=3) gr.nd rfl ‹0› (yF (CX:=bR) (k:=7) (hr.mono (by decide)) zN (pv 1) (zA (zM (pv 0) rfl) zD)))
     (zC (zQ (i:=4) gr.nd rfl ‹0› (WY (Pt:=Pt) (pos:=Q3) Oh rfl rfl rfl hh B ysC))
     (zC (zQ (i:=5) gr.nd rfl ‹0› (J8 (D:=DL) (Pt:=Pt) (Tj:=Q3) (is:=[2,0]) (k:=7) (hr.mono (by decide)) (pv 3) (zA (pv 4) zD) (fun y hy=>⟨rfl,ysC y hy⟩) (by symm) (.cons rfl (.cons rfl .nil))))
     (zC (yB (zL xO (pv 5) yM (zO _)) (zE (yE (yF (CX:=bR) (k:=7) (hr.mono (by decide)) zN (pv 0) (zA (J8 (D:=DL) (Pt:=Pt) (Tj:=Q3) (is:=[2,0]) (k:=7) (hr.mono (by decide)) (pv 3) (zA (pv 4) zD) (fun y hy=>⟨rfl,ysC y hy⟩) (by symm) (.cons rfl (.cons rfl .nil))) (zA (pv 2) zD))))) zP)
     (zE (zK (xG XJ (pv 5) xR (zO _))))))))),?_⟩
   cases sg with
   | none =>
     have hS:x=.non:=hS
     subst hS
     rcases q with ⟨_,q⟩ | ⟨z,_⟩
     · exact⟨_,rfl,rfl,_,rfl,bT q⟩
     · exact absurd rfl z
   | some y =>
     have hS:Og A N H false x y:=hS
     obtain⟨xa,rfl,_⟩:=id hS
     rcases q with ⟨z,_⟩ | ⟨_,q⟩
     · cases z
     have ⟨hm,hSu⟩:=hm y rfl
     have hz:=hG.cst.gs.ask y.1
     refine⟨_,rfl,rfl,_,rfl,aN ?_⟩
     obtain⟨a,C,dx,fs,M,ex,ha,hl,m1,m2⟩:=mSt (P:=P) (w:=w) (base:=base) T hS
     obtain⟨cv,hR,_⟩:=hG.rk
     obtain⟨kvs,k1,k2⟩:=hG.cst.kd
     have hT:=hG.same _ _ hG.cst.tb
     refine⟨_,rfl,a,C,dx,fs,M,ex,ha,hl,_,rfl,g,_,c.dx,gF c s.ov cv,_,rfl,hR.go,T.aA,T.mH,rfl,?_⟩
     rw [m1]
     refine m2 _ _ c.kd kvs S (hG.same _ _ k1) (k2.kq (.of hG.same)) hSu fun y2 H1 s1 hS1=>?_
     refine⟨s1 _ _ hT,fun p c' H2 np sB hT2 hp hc'=>?_⟩
     have k12:Kq H1 H2:=fun b o e po=>sB b o (by rintro rfl;rw [s1 _ _ hT] at e;cases e;exact po) e
     have G2:=(hG.mono s1).mW (fun b o nb e=>sB b o nb e) hT2
     have hS2:=hS1.kq k12
     obtain⟨a2,C2,XC,fs2,M2,e2,ha2,hl2,n1,n2⟩:=mSu (P:=P) (w:=w) (base:=base) T hS2
     refine⟨_,rfl,a2,C2,XC,fs2,M2,e2,ha2,hl2,_,rfl,c',[.int 0,.ref g],hT2,.cons rfl (.cons rfl .nil),fun H3 L=>?_⟩
     rw [n1]
     have lk:∀ {cs:List (Str × Addr)}{Ha Hb:Hp},H2 p=some (MT DL p cs c')→cs.map (·.1)=DL.ys→aB H2 Ha→lK A N (upd H0 Pt (.mW (Fi ++ #[.ref c']))) c S rg Pt (Fi ++ #[.ref c']) g Ha s→Th Ha Hb Pt c' DL.qual cs [.int 0,.ref g]→Kq Ha Hb∧Lj A Hb p S rg s.l:=fun {cs Ha Hb} hp en sa Ga L=>by
       have kk:Kq Ha Hb:=fun b o e po=>L.keep b o e (by rintro rfl;rw [sa _ _ hT2] at e;cases e;exact po) (by rintro rfl;rw [sa _ _ hc'] at e;cases e;exact po)
       obtain⟨cv',hR',_⟩:=Ga.rk
       exact⟨kk,_,g,c,s.ov,cv',⟨⟨c',kk _ _ (sa _ _ hp) trivial,L.code⟩,en,L.nd,L.cells⟩,hR'.kq kk⟩
     obtain⟨k23,L3⟩:=lk hp (by rfl) (aB.refl _) G2 L
     refine n2 H3 _ _ p S rg s.l (hS2.kq k23) L3 hz hm fun H4 s4 H5 r5=>?_
     have XM:=L.same s4 r5
     have G5:=G2.mono XM
     have hS5:=hS2.kq (.of XM)
     have q':=fun H'=>q c' H'
     dsimp only [Ox,soB] at q'
     cases e:tri rg N y with
     | some b =>
       rw [e] at q'
       refine⟨_,rfl,rfl,_,rfl,aN ⟨_,rfl,some b,true,rfl,rfl,?_⟩⟩
       refine q' H5 ?_
       rw [if_neg (by intro z;cases z)]
       exact G5
     | none =>
       rw [e] at q'
       refine⟨_,rfl,rfl,_,rfl,bT ?_⟩
       obtain⟨cv5,R5,_⟩:=G5.rk
       obtain⟨a3,C3,dx3,fs3,M3,e3,ha3,hl3,o1,o2⟩:=mFo (P:=P) (w:=w) (base:=base) T hS5
       refine⟨_,rfl,g,_,c.dx,gF c s.ov cv5,JSb (Pt:=Pt) T (by decide),rfl,R5.go,rfl,_,rfl,a3,C3,dx3,fs3,M3,e3,ha3,hl3,_,rfl,c',[.int 0,.ref g],XM _ _ hT2,.cons rfl (.cons rfl .nil),fun H6 L6=>?_⟩
       rw [o1,o2]
       obtain⟨k56,L6'⟩:=lk hp (by rfl) XM G5 L6
       refine⟨_,N,y,p,S,rg,s.l,rfl,hS5.kq k56,L6',hz,hm,U6 e,fun b H7 s7 hb H8 r8=>?_⟩
       have s58:=L6.same s7 r8
       have hb8:Fg A N H8 true b y.1:=by
         obtain⟨dx,hb⟩:=hb
         refine⟨dx,r8.new _ _ hb ?_⟩
         cases y.1 <;> (intro _ _ z;cases z)
       refine⟨_,rfl,N,_,c,S,rg,_,g,s,b,y.1,rfl,G5.mono s58,hb8,hm,fun H9 G9=>?_⟩
       refine⟨_,rfl,none,true,rfl,rfl,?_⟩
       refine q' H9 ?_
       rw [if_pos rfl]
       exact G9
 · intro vs H Q E h
   obtain⟨N,H0,c,S,rg,g,s,x,sg,rfl,hG,hS,hm,q⟩:=h
   have hT:=hG.same _ _ hG.cst.tb
   refine⟨hT,N,H0,c,S,rg,g,s,x,sg,rfl,hG,hS,hm,?_⟩
   cases sg with
   | none=>exact .inl ⟨rfl,.inr ⟨hT,q _ hG⟩⟩
   | some y =>
     refine .inr ⟨by simp,fun c' H' G'=>.inl ⟨c',G'.same _ _ zB,q _ ?_⟩⟩
     have:=G'.mW (H':=upd H' Pt (.mW Fi)) (V3:=Fi) (fun b o nb e=>by rw [zI nb];exact e) zB
     rw [yD,aaO hG.cst.tb] at this
     exact this
def JSo (T:Txt K mg A) (B:BMain mg base) {c0 Pt:Addr} (hc:A.aW.code=.ref c0) (hh:W.codeHdIn K c0 Pt=true):dw P w K mg base bR 8 A.az "is_so":=⟨_,_,_,_,[],[],T.aA,T.Ef,aem T B hc hh,T.Bb,.nil⟩
end
def U7 (s:Gs) (r:Rw):Gs:=⟨s.l++[r.nm],s.L++[rK r.nm],s.D,s.ov,s.ct⟩
def kY (rg:Rg) (N:Nm) (s:Gs) (r:Rw):Gs:=if s.ov=true then s else if soB rg N r.wn=true then U7 (Ox rg N s r.wn) r else Ox rg N s r.wn
def fJ (rg:Rg) (N:Nm) (s:Gs) (rs:List Rw):Gs:=rs.foldl (kY rg N) s
theorem Ho {rg:Rg}{N:Nm}{s:Gs} (h:s.ov=true):∀ rs,fJ rg N s rs=s
 | []=>rfl
 | r::rs=>by
   show fJ rg N (kY rg N s r) rs=s
   rw [show kY rg N s r=s from if_pos h]
   exact Ho h rs
theorem U8 {rg:Rg}{N:Nm}{s:Gs}{g:Sg}:(Ox rg N s g).l=s.l∧(Ox rg N s g).L=s.L∧(Ox rg N s g).D=s.D:=by
 cases g with
 | none=>exact⟨rfl,rfl,rfl⟩
 | some y =>
   unfold Ox
   dsimp only
   split <;> exact⟨rfl,rfl,rfl⟩
theorem U9 {rg:Rg}{N:Nm}{s:Gs}{r:Rw}:(kY rg N s r).l.length≤s.l.length+1∧(kY rg N s r).L.length≤s.L.length+1∧(kY rg N s r).D=s.D:=by
 obtain⟨h1,h2,h3⟩:=U8 (rg:=rg) (N:=N) (s:=s) (g:=r.wn)
 unfold kY
 split
 · exact⟨Nat.le_succ _,Nat.le_succ _,rfl⟩
 · split
   · refine⟨?_,?_,h3⟩
     · show (_++[_]).length≤_;rw [h1,List.length_append];exact Nat.le_refl _
     · show (_++[_]).length≤_;rw [h2,List.length_append];exact Nat.le_refl _
   · rw [h1,h2];exact⟨Nat.le_succ _,Nat.le_succ _,h3⟩
theorem Eu {rg:Rg}{N:Nm}:∀ (rs:List Rw) (s:Gs),(fJ rg N s rs).l.length≤s.l.length+rs.length∧(fJ rg N s rs).L.length≤s.L.length+rs.length∧(fJ rg N s rs).D=s.D
 | [],s=>⟨Nat.le_refl _,Nat.le_refl _,rfl⟩
 | r::rs,s=>by
   obtain⟨h1,h2,h3⟩:=U9 (rg:=rg) (N:=N) (s:=s) (r:=r)
   obtain⟨g1,g2,g3⟩:=Eu (rg:=rg) (N:=N) rs (kY rg N s r)
   simp only [List.length_cons]
   refine⟨Nat.le_trans g1 (by omega),Nat.le_trans g2 (by omega),g3.trans h3⟩
section
variable {A:cT}{N:Nm}{H0 H H2:Hp}{c:GA}{S:List oZ}{rg:Rg}{Pt:Addr}{td:Array Value}{g:Addr}{s:Gs}
theorem lK.noted (h:lK A N H0 c S rg Pt td g H s) {d t:Addr}{z:Str}{kvs Va:List (Key × V)} (a1:H c.aq=some (.dK kvs)) (ht:H t=some (.tup [.int (rg z).1,.int (rg z).2])) (n0:H0 d=none) (nd:d≠c.aq) (hd:H d=none∨∃ u,H d=some (.dK u))
   (st:∀ x o,H x=some o→x≠d→x≠c.aq→H2 x=some o) (e1:H2 c.aq=some (.dK Va)) (e2:H2 d=some (.dK [(.inl 0,.ref t)])) (v1:eU Va (.inr z)=some (.ref d)) (v2:∀ y,y≠z→eU Va (.inr y)=eU kvs (.inr y)) (v3:∀ y,y≠z→eU kvs (.inr y)≠some (.ref d)) (ln:Va.length≤kvs.length+1) :
   lK A N H0 c S rg Pt td g H2 ⟨s.l++[z],s.L,s.D,s.ov,s.ct⟩:=by
 have nt:∀ {x:Addr}{o:HO},H x=some o→(∀ q,o≠.dK q)→H2 x=some o:=fun {x o} hx hn=>st x o hx (fun e=>by
   subst e
   rcases hd with e | ⟨u,e⟩
   · rw [e] at hx;cases hx
   · rw [e] at hx;cases hx;exact hn _ rfl) (yJ hx a1 (hn _))
 obtain⟨kvs',a1',a2,a3⟩:=h.aq
 rw [a1] at a1';cases a1'
 obtain⟨t',t1,t2⟩:=h.lg
 obtain⟨cv,g1,g2⟩:=h.go
 have tp:∀ {x:V}{e:List V},mQ H x e→mQ H2 x e:=fun {x e} q=>by
   obtain⟨a,ea,q⟩:=q
   exact⟨a,ea,nt q (fun _ z=>by cases z)⟩
 refine⟨fun x o hx=>st x o (h.same _ _ hx) (zH hx n0) (zH hx h.Rf),h.cst,h.ng,h.Rf,h.Rh,h.UW,h.ld,⟨cv,nt g1 (fun _ z=>by cases z),?_⟩,⟨Va,e1,⟨?_,fun y hy=>?_,fun y hy=>?_⟩,fun y d' hy=>?_⟩,⟨t',nt t1 (fun _ z=>by cases z),zJ t2 fun _ _=>tp⟩,nt h.db (fun _ z=>by cases z)⟩
 · cases hc:s.ct with
   | none=>rw [hc] at g2;exact g2
   | some q=>rw [hc] at g2;exact tp g2
 · have:=a2.1
   simp only [List.length_append,List.length_cons,List.length_nil]
   omega
 · by_cases e:y=z
   · subst e
     exact⟨d,t,v1,e2,nt ht (fun _ z=>by cases z)⟩
   · rcases List.mem_append.mp hy with hy | hy
     · obtain⟨d',t'',c1,c2,c3⟩:=a2.2.1 y hy
       have ne:d'≠d:=fun q=>v3 y e (by rw [← q];exact c1)
       exact⟨d',t'',by rw [v2 y e];exact c1,st _ _ c2 ne (a3 y d' c1).2.1,nt c3 (fun _ z=>by cases z)⟩
     · exact absurd (List.mem_singleton.mp hy) e
 · have e:y≠z:=fun q=>hy (List.mem_append_right _ (List.mem_singleton.mpr q))
   rw [v2 y e]
   exact a2.2.2 y fun q=>hy (List.mem_append_left _ q)
 · by_cases e:y=z
   · subst e
     rw [v1] at hy;cases hy
     refine⟨n0,nd,fun y' hy'=>?_⟩
     by_cases e:y'=y
     · exact e
     · rw [v2 y' e] at hy';exact absurd hy' (v3 y' e)
   · rw [v2 y e] at hy
     obtain⟨b1,b2,b3⟩:=a3 y d' hy
     refine⟨b1,b2,fun y' hy'=>?_⟩
     by_cases e':y'=z
     · subst e'
       rw [v1] at hy';cases hy'
       exact absurd hy (v3 y e)
     · rw [v2 y' e'] at hy';exact b3 y' hy'
end
def Vb (A:cT) (Pt:Addr):Sp:=fun vs H Q _=>∃ N H0 c S rg td g s z t,vs=[.ref g,.str z,.int 0,.ref t]∧lK A N H0 c S rg Pt td g H s∧H t=some (.tup [.int (rg z).1,.int (rg z).2])∧s.l.length≤1000∧∀ H',lK A N H0 c S rg Pt td g H' ⟨s.l++[z],s.L,s.D,s.ov,s.ct⟩→Q .non H'
def ap9 (A:cT):Sp:=fun vs H Q _=>∃ bx kd kvs S rg r,vs=[.ref bx,.ref kd,.str r.nm,.int 0]∧H kd=some (.dK kvs)∧Rc A H kvs S∧XD H bx S rg∧gU S r∧∀ t H',aB H H'→H' t=some (.tup [.int (rg r.nm).1,.int (rg r.nm).2])→Q (.ref t) H'
def Y4 (A:cT) (Pt:Addr):Sp:=fun vs H Q _=>∃ N H0 c S rg td g s r,vs=[.ref g,.str r.nm,.int 0]∧lK A N H0 c S rg Pt td g H s∧gU S r∧s.l.length≤100∧s.L.length≤100∧∀ H',lK A N H0 c S rg Pt td g H' (U7 s r)→Q .non H'
def Y5 (A:cT) (Pt:Addr):Sp:=fun vs H Q _=>∃ N H0 c S rg g s x sh,vs=[.ref g,x,.int 0]∧lK A N H0 c S rg Pt Fi g H s∧Xv A N H0 x sh∧sh∈S∧s.l.length≤50∧s.L.length≤50∧(∀ (j:Nat) r y,sh.2[j]? = some r→r.wn=some y→N y.1.i∈(fJ rg N s (sh.2.take j)).l)∧∀ H',lK A N H0 c S rg Pt Fi g H' (fJ rg N s sh.2)→Q .non H'
theorem Q0.fld {K:W.Frag}{mg:Str→Option Value}{A:cT} (T:Txt K mg A) {H:Hp}{k:Addr}{x:Kn} (h:Q0 A H k x):∃ C dk fs,H k=some (.ins C dk fs)∧Ak K C∧aJ K C "low"∧aJ K C "high"∧fs.lookup ‹"low"› = some (.int x.lo)∧fs.lookup ‹"high"› = some (.int x.hi):=by
 obtain⟨dk,q,h,_⟩:=h
 cases x with
 | yn=>exact⟨_,dk,_,h,T.qY,T.vX,T.tR,rfl,rfl⟩
 | pk ws=>exact⟨_,dk,_,h,T.nJ,T.zz,T.wg,rfl,rfl⟩
 | nm hi=>exact⟨_,dk,_,h,T.K6,T.v5,T.tW,rfl,rfl⟩
 | mo lo hi=>exact⟨_,dk,_,h,T.K4,T.vZ,T.tV,rfl,rfl⟩
 | wh lo hi=>exact⟨_,dk,_,h,T.KZ,T.vY,T.tU,rfl,rfl⟩
section
variable {P:Program}{w:World}{K:W.Frag}{mg:Str→Option Value}{base:Heap}{A:cT}{Pt:Addr}
theorem XN (T:Txt K mg A):aV P w K mg base bR 1 A.lZ A.mj ["self","question","thing","known"] (Vb A Pt):=by
 refine T.Dm.ok Bl (fun vs H Q E h=>?_) (fun cdv A0 outer s H vs Q E hr h=>?_)
 · obtain⟨N,H0,c,S,rg,td,g,s,z,t,rfl,_⟩:=h
   rfl
 obtain⟨N,H0,c,S,rg,td,g,s,z,t,rfl,hG,ht,hl,k⟩:=h
 refine⟨_,(zC (yB (zL (CK (xM hr)) (pv 1) (zM (pv 0) rfl) (by rfl)) (zE (vA (xM hr) (zM (pv 0) rfl) (pv 1) oN rfl)) zP)
     (zE (vA (xM hr) (Bu (xM hr) (zM (pv 0) rfl) (pv 1) (fun _ _=>rfl)) (pv 2) (pv 3) rfl))),?_⟩
 obtain⟨kvs,a1,a2,a3⟩:=hG.aq
 obtain⟨cv,g1,g2⟩:=hG.go
 have lk:(gF c s.ov cv).lookup ‹"asked"› = some (.ref c.aq):=rfl
 refine p6 (fun σ H1=>∃ kvs d u,σ=[some (.ref g),some (.str z),some (.int 0),some (.ref t)]∧H1 g=some (oGo A c s.ov cv)∧H1 c.aq=some (.dK kvs)∧eU kvs (.inr z)=some (.ref d)∧H1 d=some (.dK u)∧u.length≤1∧∀ H2,(∀ x,x≠d→H2 x=H1 x)→H2 d=some (.dK [(.inl 0,.ref t)])→(putK u (.inl 0) (.ref t)=[(.inl 0,.ref t)]∧lK A N H0 c S rg Pt td g H2 ⟨s.l++[z],s.L,s.D,s.ov,s.ct⟩)) ?_ ?_
 · rintro σ H1 ⟨kvs,d,u,rfl,g1,a1,e1,d1,ul,kk⟩
   have g2:jd H1 c.aq (.str z) (some (.ref d)):=by
     have:=jd.k (k:=.inr z) a1
     rw [e1] at this
     exact this
   refine⟨_,rfl,_,rfl,g,_,c.dx,_,_,rfl,g1,T.aA,T.gj,lk,_,rfl,c.aq,_,rfl,g2,_,rfl,d,_,rfl,Cd.k (k:=.inl 0) d1 (yL (m:=10) (by omega)),?_⟩
   have kk1:=kk (upd H1 d (.dK [(.inl 0,.ref t)])) (fun x hx=>zI hx) zB
   rw [kk1.1]
   exact k _ kk1.2
 intro M hN
 refine⟨_,rfl,_,rfl,g,_,c.dx,_,_,rfl,g1,T.aA,T.gj,lk,c.aq,_,rfl,jd.k (k:=.inr z) a1,_,rfl,?_⟩
 by_cases hm:z∈s.l
 · obtain⟨d,t0,b2,b3,b4⟩:=a2.2.1 z hm
   rw [b2]
   obtain⟨f1,f2,f3⟩:=a3 z d b2
   refine aN (hN _ _ ⟨kvs,d,_,rfl,g1,a1,b2,b3,Nat.le_refl _,fun H2 e2 h2=>⟨by rfl,?_⟩⟩)
   exact hG.noted a1 ht f1 f2 (.inr ⟨_,b3⟩) (fun x o hx n1 n2=>by rw [e2 x n1];exact hx) (by rw [e2 _ (Ne.symm f2)];exact a1) h2 b2 (fun _ _=>rfl) (fun y hy e=>hy (f3 y e)) (Nat.le_succ _)
 · rw [a2.2.2 z hm]
   refine bT ?_
   intro d hd
   have s1:=zG hd (.dK [])
   have nda:d≠c.aq:=Ne.symm (zH a1 hd)
   have n0:H0 d=none:=yK hG.same hd
   refine⟨_,rfl,g,_,c.dx,_,_,rfl,s1 _ _ g1,T.aA,T.gj,lk,_,rfl,c.aq,_,rfl,Cd.k (k:=.inr z) (s1 _ _ a1) (yL (m:=1000000) (by have:=a2.1;omega)),hN _ _ ?_⟩
   refine⟨putK kvs (.inr z) (.ref d),d,[],rfl,by rw [zI (yJ (s1 _ _ g1) (s1 _ _ a1) (by intro z;cases z))];exact s1 _ _ g1,zB,by rw [lL,if_pos rfl],by rw [zI nda];exact zB,by decide,fun H2 e2 h2=>⟨by rfl,?_⟩⟩
   refine hG.noted a1 ht n0 nda (.inl hd) (fun x o hx n1 n2=>by rw [e2 x n1,zI n2,zI n1];exact hx) (by rw [e2 _ (Ne.symm nda)];exact zB) h2 (by rw [lL,if_pos rfl]) (fun y hy=>by rw [lL,if_neg (fun q=>hy (Sum.inr.inj q))]) (fun y hy e=>?_) (xD kvs (.inr z) (.ref d))
   by_cases hy2:y∈s.l
   · obtain⟨d',_,c1,c2,_⟩:=a2.2.1 y hy2
     rw [e] at c1;cases c1
     rw [hd] at c2;cases c2
   · rw [a2.2.2 y hy2] at e;cases e
theorem rN (T:Txt K mg A):aV P w K mg base bR 1 A.pJ A.uo ["box","kinds","question","k"] (ap9 A):=by
 refine T.Ni.ok Ab (fun vs H Q E h=>?_) (fun cdv A0 outer s H vs Q E hr h=>?_)
 · obtain⟨bx,kd,kvs,S,rg,r,rfl,_⟩:=h
   rfl
 obtain⟨bx,kd,kvs,S,rg,r,rfl,k1,k2,⟨b,b1,b2⟩,hr',q⟩:=h
 refine⟨_,(zC (zQ (i:=4) Ab.nd rfl ‹0› (Bu (xM hr) (pv 1) (pv 2) (fun _ _=>rfl)))
     (zE (zK (JT (xM hr) (pv 0) (yA (zA (pv 2) (zA (pv 3) zD))) (yA (zA (zM (pv 4) rfl) (zA (zM (pv 4) rfl) zD))) ⟨rfl,rfl,rfl,rfl⟩)))),?_⟩
 obtain⟨kp,k3,k4⟩:=k2 r hr'
 obtain⟨C,dk,fs,f1,f2,f3,f4,f5,f6⟩:=k4.fld T
 refine⟨_,rfl,_,rfl,kd,_,rfl,(by rw [← k3];exact jd.k (k:=.inr r.nm) k1),?_⟩
 refine⟨_,rfl,bx,rfl,.inr ⟨b,.inl b1⟩,_,rfl,_,rfl,(by show 2≤sizeLine;decide),fun t ht=>?_⟩
 have s1:=zG ht (.tup [.str r.nm,.int 0])
 have kk:=s1 _ _ f1
 refine⟨_,rfl,kp,_,dk,_,_,rfl,kk,f2,f3,f5,_,rfl,kp,_,dk,_,_,rfl,kk,f2,f4,f6,(by show 2≤sizeLine;decide),fun t2 Q4=>?_⟩
 have s2:=zG Q4 (.tup [.int r.kd.lo,.int r.kd.hi])
 refine⟨_,jd.t (k:=keyOf r.nm) (s2 _ _ (s1 _ _ b1)) (s2 _ _ zB),?_⟩
 rcases b2 r hr' with ⟨u,e1,e2⟩ | ⟨e1,e2⟩
 · rw [e1]
   exact q u _ (s1.trans s2) (s2 _ _ (s1 _ _ e2))
 · rw [e1]
   refine q t2 _ (s1.trans s2) ?_
   rw [e2];exact zB
def JN (T:Txt K mg A):dw P w K mg base bR 4 A.az "note":=⟨_,_,_,Vb A Pt,[],[],T.aA,T.Gg,(XN T).mono (by decide),T.Dp,.nil⟩
def JSt (T:Txt K mg A):dw P w K mg base bR 4 A.az "stop_with":=⟨_,_,_,U3 A Pt,[],[],T.aA,T.uU,(XH T).mono (by decide),T.sW,.nil⟩
theorem aaP (T:Txt K mg A):aV P w K mg base bR 5 A.oA A.oE ["self","question","thing"] (Y4 A Pt):=by
 have mR:=rN (P:=P) (w:=w) (base:=base) T
 refine T.FP.ok En (fun vs H Q E h=>?_) (fun cdv A0 outer s H vs Q E hr h=>?_)
 · obtain⟨N,H0,c,S,rg,td,g,s,r,rfl,_⟩:=h
   rfl
 obtain⟨N,H0,c,S,rg,td,g,s,r,rfl,hG,hr',hl,hL,k⟩:=h
 obtain⟨aaQ,e2⟩:∃ k:Nat,k=4:=⟨_,rfl⟩
 refine⟨_,(zC (yE (kO PySem.F.plainAttrs_list PySem.F.slot_list_append PySem.F.type_list_append yR (zM (pv 0) rfl) (zA (yA (zA zS (zA (pv 1) (zA (pv 2) zD)))) zD)))
     (zE (yE (yF (CX:=bR) (k:=aaQ) ‹hr› zN (pv 0) (zA (pv 1) (zA (pv 2) (zA (zT mR ‹hr› rfl T.uI T.uH T.uG .nil zN (zA (zM (pv 0) rfl) (zA (zM (pv 0) rfl) (zA (pv 1) (zA (pv 2) zD))))) zD))))))),?_⟩
 subst e2
 obtain⟨ts,t1,t2⟩:=hG.lg
 obtain⟨cv,g1,g2⟩:=hG.go
 have tl:=zX t2
 refine⟨_,rfl,g,_,c.dx,gF c s.ov cv,_,rfl,g1,T.aA,T.lD,rfl,.inl ⟨rfl,_,cB.of t1⟩,_,rfl,_,rfl,(by show 3≤sizeLine;decide),fun t' ht'=>?_⟩
 have s2:=zG ht' (.tup [.str ‹"ask"›,.str r.nm,.int 0])
 refine⟨c.lg,_,_,rfl,rfl,s2 _ _ t1,yL (m:=1000000) (by omega),?_⟩
 have G2:=(hG.mono s2).app (s2 _ _ t1) (e:=rK r.nm) (t:=t') zB
 obtain⟨cv2,h1,h2⟩:=G2.go
 refine⟨_,rfl,g,_,c.dx,gF c s.ov cv2,JN T (Pt:=Pt),rfl,h1,rfl,_,rfl,_,rfl,_,rfl,g,_,c.dx,gF c s.ov cv2,_,rfl,h1,T.aA,T.wy,rfl,_,rfl,g,_,c.dx,gF c s.ov cv2,_,rfl,h1,T.aA,T.mH,rfl,_,rfl,_,rfl,?_⟩
 obtain⟨kvs,k1,k2⟩:=hG.cst.kd
 refine⟨c.bx,c.kd,kvs,S,rg,r,rfl,G2.same _ _ k1,k2.kq (.of G2.same),XD.kq (.of G2.same) hG.cst.bx,hr',fun t H3 s3 h3=>?_⟩
 exact⟨N,H0,c,S,rg,td,g,_,r.nm,t,rfl,G2.mono s3,h3,Nat.le_trans hl (by decide),fun H' G'=>k _ G'⟩
def JPu (T:Txt K mg A):dw P w K mg base bR 5 A.az "put":=⟨_,_,_,Y4 A Pt,[],[],T.aA,T.Iz,aaP T,T.FQ,.nil⟩
variable (B:BMain mg base) {c0:Addr} (hc:A.aW.code=.ref c0) (hh:W.codeHdIn K c0 Pt=true)
include B hc hh
theorem aaR (T:Txt K mg A):aV P w K mg base bR 10 A.fW A.fX ["self","sheet","thing"] (Y5 A Pt):=by
 refine T.qP.ok jh (fun vs H Q E h=>?_) (fun cdv A0 outer s H vs Q E hr h=>?_)
 · obtain⟨N,H0,c,S,rg,g,s,x,sh,rfl,_⟩:=h
   rfl
 obtain⟨N,H0,c,S,rg,g,s,x,sh,rfl,hG,hx,hsh,hl,hL,hw0,k⟩:=h
 obtain⟨Jh,e1⟩:∃ k:Nat,k=8:=⟨_,rfl⟩
 obtain⟨k_put,e2⟩:∃ k:Nat,k=5:=⟨_,rfl⟩
 refine⟨_,(zE (lu PassesOwn.never rfl (xH (zM (pv 1) rfl)) (yW (i:=3) jh.nd rfl ‹0›) (zC (yB (yN (zM (pv 0) rfl)) (zE Wj) zP)
     (zE (yB (jY (yN (zR yQ (by rfl) T.aF Bt.isinstance (zA (pv 3) (zA (zr rfl T.Ua) zD))))) (zE (yE Tt)) (zE (yB (yN (yF (CX:=bR) (k:=Jh) ‹hr› zN (pv 0) (zA (zM (pv 3) rfl) (zA (pv 2) zD)))) (zE (yE (yF (CX:=bR) (k:=k_put) ‹hr› zN (pv 0) (zA (zM (pv 3) rfl) (zA (pv 2) zD))))) zP))))))),?_⟩
 subst e1 e2
 obtain⟨sa,V0,r1,r2,rs,rfl,a1,a2,a3,a4⟩:=hx
 refine⟨_,rfl,sa,_,V0,_,_,rfl,hG.same _ _ a1,T.gQ,T.jJ,rfl,r1,rfl,⟨rs,cB.of (hG.same _ _ a2)⟩,?_⟩
 refine xL (xs:=rs) (fun j σ H'=>∃ v,σ=[some (.ref g),some (.ref sa),some (.int 0),v]∧lK A N H0 c S rg Pt Fi g H' (fJ rg N s (sh.2.take j))) ⟨_,rfl,hG⟩ (fun j σ H2 hj hw=>?_) (fun j x σ H2 hx2 hw=>?_) (fun σ H2 hw=>?_)
 · obtain⟨v,rfl,G⟩:=hw
   exact cB.of (G.same _ _ a2)
 · obtain⟨v,rfl,G⟩:=hw
   obtain⟨r,hr,hR⟩:=yO a4 hx2
   have hst:=take_snoc hr
   have hrow:fJ rg N s (sh.2.take (j+1))=kY rg N (fJ rg N s (sh.2.take j)) r:=by rw [hst];unfold fJ;rw [List.foldl_append];rfl
   have h4:(sh.2.take j).length≤4:=Nat.le_trans (by rw [List.length_take];exact Nat.min_le_right _ _) (hG.cst.gs.rows sh hsh)
   have rm:r∈sh.2:=List.mem_of_getElem? hr
   have hall:fJ rg N s sh.2=fJ rg N (fJ rg N s (sh.2.take j)) (sh.2.drop j):=by
     conv=>lhs;rw [← List.take_append_drop j sh.2]
     unfold fJ;rw [List.foldl_append]
   have hwm:=fun y=>hw0 j r y hr
   have el:(fJ rg N s (sh.2.take j)).l.length≤100∧(fJ rg N s (sh.2.take j)).L.length≤100:=by
     obtain⟨e1,e2,_⟩:=Eu (rg:=rg) (N:=N) (sh.2.take j) s
     exact⟨by omega,by omega⟩
   generalize fJ rg N s (sh.2.take j)=s2 at G hrow el hall hwm
   obtain⟨cv,g1,g2⟩:=G.go
   refine⟨_,rfl,g,_,c.dx,gF c s2.ov cv,_,rfl,g1,T.aA,T.eQ,rfl,_,rfl,?_⟩
   cases ho:s2.ov with
   | true =>
     rw [Ho ho] at hall
     refine bT (k _ ?_)
     rw [hall];exact G
   | false =>
     refine aN ?_
     obtain⟨ra,V1,kp,wv,rfl,b1,b2,b3⟩:=hR
     refine⟨_,rfl,_,_,_,_,rfl,rfl,.old (T.Oa H2 ra V1 _ (G.same _ _ b1)),T.uQ,_,rfl,aN ?_⟩
     refine⟨_,rfl,g,_,c.dx,gF c s2.ov cv,JSo T B hc hh,rfl,g1,rfl,_,rfl,ra,_,V1,_,_,rfl,G.same _ _ b1,T.qZ,T.Aa,rfl,_,rfl,?_⟩
     have hrS:gU S r:=⟨sh,hsh,rm⟩
     obtain⟨r0,r01,r02,r03⟩:=hG.cst.gs.q0
     refine⟨N,H0,c,S,rg,g,s2,wv,r.wn,rfl,G,b3.kq (.of G.same),fun y ey=>⟨hwm y ey,r0,r01,r02,r03 r y hrS ey⟩,fun H3 G3=>?_⟩
     have hst:kY rg N s2 r=if soB rg N r.wn=true then U7 (Ox rg N s2 r.wn) r else Ox rg N s2 r.wn:=if_neg (by rw [ho];decide)
     obtain⟨z1,z2,z3⟩:=U8 (rg:=rg) (N:=N) (s:=s2) (g:=r.wn)
     generalize Ox rg N s2 r.wn=s3 at G3 hst z1 z2
     refine⟨_,rfl,?_⟩
     cases hb:soB rg N r.wn with
     | true =>
       rw [if_pos hb] at hst
       obtain⟨cv3,g3,_⟩:=G3.go
       refine bT ⟨_,rfl,g,_,c.dx,gF c s3.ov cv3,JPu T (Pt:=Pt),rfl,g3,rfl,_,rfl,ra,_,V1,_,_,rfl,G3.same _ _ b1,T.qZ,T.nM,rfl,_,rfl,?_⟩
       exact⟨N,H0,c,S,rg,_,g,s3,r,rfl,G3,hrS,by rw [z1];exact el.1,by rw [z2];exact el.2,fun H' G'=>⟨_,rfl,by rw [hrow,hst];exact G'⟩⟩
     | false =>
       rw [if_neg (by rw [hb];decide)] at hst
       exact aN ⟨_,rfl,by rw [hrow,hst];exact G3⟩
 · obtain⟨v,rfl,G⟩:=hw
   rw [zX a4,List.take_length] at G
   exact k _ G
def JTr (T:Txt K mg A):dw P w K mg base bR 10 A.az "go_through":=⟨_,_,_,Y5 A Pt,[],[],T.aA,T.tD,aaR B hc hh T,T.qQ,.nil⟩
end
theorem lK.rebase {A:cT}{N:Nm}{H0 H:Hp}{c:GA}{S:List oZ}{rg:Rg}{Pt:Addr}{td:Array Value}{g:Addr}{s:Gs} (h:lK A N H0 c S rg Pt td g H s) {d:Addr}{xs:List V} (hd:H d=some (.lst xs)) (n0:H0 d=none) (nl:c.lg≠d) (nd:c.db≠d):lK A N (upd H0 d (.lst xs)) c S rg Pt td g H s:=by
 have s1:=zG n0 (.lst xs)
 have k1:Kq H0 (upd H0 d (.lst xs)):=.of s1
 obtain⟨a,a1,a2,a3⟩:=h.aq
 obtain⟨cv,g1,g2⟩:=h.go
 obtain⟨c1,⟨b,c2,c3⟩,c4,⟨k,c5,c6⟩,⟨e,c7,c8⟩,c9,c10⟩:=h.cst
 have na:c.aq≠d:=yJ a1 hd (by intro z;cases z)
 refine⟨fun x u hx=>?_,⟨c1.kq k1,⟨b,s1 _ _ c2,fun r hr=>?_⟩,s1 _ _ c4,⟨k,s1 _ _ c5,c6.kq k1⟩,⟨e,s1 _ _ c7,c8⟩,s1 _ _ c9,c10⟩,?_,?_,?_,?_,h.ld,⟨cv,g1,g2⟩,⟨a,a1,a2,fun z d' hz=>?_⟩,h.lg,h.db⟩
 · by_cases e:x=d
   · subst e;rw [zB] at hx;cases hx;exact hd
   · rw [zI e] at hx;exact h.same _ _ hx
 · rcases c3 r hr with ⟨t,h1,h2⟩ | h1
   · exact .inl ⟨t,h1,s1 _ _ h2⟩
   · exact .inr h1
 · rw [zI (yJ g1 hd (by intro z;cases z))];exact h.ng
 · rw [zI na];exact h.Rf
 · rw [zI nl];exact h.Rh
 · rw [zI nd];exact h.UW
 · obtain⟨f1,f2,f3⟩:=a3 z d' hz
   refine⟨?_,f2,f3⟩
   by_cases hz2:z∈s.l
   · obtain⟨d2,b2,h2,h3,_⟩:=a2.2.1 z hz2
     rw [hz] at h2;cases h2
     rw [zI (yJ h3 hd (by intro z;cases z))];exact f1
   · rw [a2.2.2 z hz2] at hz;cases hz
def Y6 (A:cT) (Pt:Addr):Sp:=fun vs H Q _=>∃ N H0 c S rg td g s x sh,vs=[.ref g,x]∧lK A N H0 c S rg Pt td g H s∧Xv A N H0 x sh∧∀ d H',H d=none→aB H H'→H' d=some (.lst [])→Q (.ref d) H'
def Y7 (A:cT) (Pt:Addr):Sp:=fun vs H Q _=>∃ N H0 c S rg td g s x sh,vs=[.ref g,x]∧lK A N H0 c S rg Pt td g H s∧Xv A N H0 x sh∧∀ d H',H d=none→aB H H'→H' d=some (.lst [.int 0])→Q (.ref d) H'
def aeo (A:cT) (Pt:Addr):Sp:=fun vs H Q _=>∃ N H0 c S rg td g s,∃ i:Nat,∃ sh:oZ,vs=[.ref g,.int (i:Nat)]∧lK A N H0 c S rg Pt td g H s∧S[i]? = some sh∧∀ H',aB H H'→Q (.int ((i+1:Nat):Int)) H'
section
variable {P:Program}{w:World}{K:W.Frag}{mg:Str→Option Value}{base:Heap}{A:cT}{Pt:Addr}
theorem aaS (T:Txt K mg A):aV P w K mg base bR 1 A.gM A.gO ["self","sheet"] (Y7 A Pt):=by
 refine T.sZ.ok rE (fun vs H Q E h=>?_) (fun cdv A0 outer s H vs Q E hr h=>?_)
 · obtain⟨N,H0,c,S,rg,td,g,s,x,sh,rfl,_⟩:=h
   rfl
 obtain⟨N,H0,c,S,rg,td,g,s,x,sh,rfl,hG,hx,k⟩:=h
 refine⟨_,(zC (yB (zL xO (zM (pv 1) rfl) yM (zO _)) (zE (zK (yI (zA (zM (pv 0) rfl) zD)))) zP)
     (zC qd
     (zC qd
     (zC qd
     (zE qd))))),?_⟩
 obtain⟨sa,V0,r1,r2,rs,rfl,a1,a2,a3,a4⟩:=hx
 obtain⟨cv,g1,_⟩:=hG.go
 refine⟨_,rfl,sa,_,V0,_,_,rfl,hG.same _ _ a1,T.gQ,T.oG,rfl,rfl,_,rfl,bT ?_⟩
 refine⟨_,rfl,g,_,c.dx,gF c s.ov cv,_,rfl,g1,T.aA,T.mG,rfl,(by show 1≤sizeLine;decide),fun d hd=>?_⟩
 exact k d _ hd (zG hd _) zB
def JTh (T:Txt K mg A):dw P w K mg base bR 5 A.az "things_of":=⟨_,_,_,Y7 A Pt,[],[],T.aA,T.uT,(aaS T).mono (by decide),T.tu,.nil⟩
theorem aaT (T:Txt K mg A):aV P w K mg base bR 9 A.fY A.fZ ["self","sheet"] (Y6 A Pt):=by
 refine T.qR.ok dN (fun vs H Q E h=>?_) (fun cdv A0 outer s H vs Q E hr h=>?_)
 · obtain⟨N,H0,c,S,rg,td,g,s,x,sh,rfl,_⟩:=h
   rfl
 obtain⟨N,H0,c,S,rg,td,g,s,x,sh,rfl,hG,hx,k⟩:=h
 obtain⟨Jh,e1⟩:∃ k:Nat,k=8:=⟨_,rfl⟩
 refine⟨_,(zC (zQ (i:=2) dN.nd rfl ‹0› (yI zD))
     (zC (lu PassesOwn.never rfl (xH (zM (pv 1) rfl)) (Ht rfl (jN (yW (i:=3) dN.nd rfl ‹0›) (jN (yW (i:=4) dN.nd rfl ‹0›) Bq))) (zE (yB (PW.pt (xK (jY (yN (zM (pv 0) rfl))) (xC (yN (yF (CX:=bR) (k:=Jh) ‹hr› zN (pv 0) (zA (pv 4) (zA (zM (pv 0) rfl) zD))))))) (zE (yE (kO PySem.F.plainAttrs_list PySem.F.slot_list_append PySem.F.type_list_append yR (pv 2) (zA (pv 3) zD)))) zP)))
     (zE (zK (pv 2))))),?_⟩
 subst e1
 obtain⟨sa,V0,r1,r2,rs,rfl,a1,a2,a3,a4⟩:=hx
 refine⟨(by show 0≤sizeLine;decide),fun d hd=>?_⟩
 have s1:=zG hd (.lst [])
 refine⟨_,rfl,sa,_,V0,_,_,rfl,s1 _ _ (hG.same _ _ a1),T.gQ,T.tX,rfl,r2,rfl,⟨[],cB.of (s1 _ _ (hG.same _ _ a3))⟩,?_⟩
 refine xL (xs:=[]) (fun j σ H'=>σ=[some (.ref g),some (.ref sa),some (.ref d),none,none]∧H'=upd H d (.lst [])) ⟨rfl,rfl⟩ (fun j σ H2 hj hw=>?_) (fun j x σ H2 hx2 hw=>by simp at hx2) (fun σ H2 hw=>?_)
 · rw [hw.2];exact cB.of (s1 _ _ (hG.same _ _ a3))
 · obtain⟨rfl,rfl⟩:=hw
   exact⟨_,rfl,k d _ hd s1 zB⟩
def JTg (T:Txt K mg A):dw P w K mg base bR 9 A.az "targets_of":=⟨_,_,_,Y6 A Pt,[],[],T.aA,T.tE,aaT T,T.qT,.nil⟩
theorem aep (T:Txt K mg A):aV P w K mg base bR 10 A.j9 A.kh ["self","place"] (aeo A Pt):=by
 refine T.Aw.ok gq (fun vs H Q E h=>?_) (fun cdv A0 outer s H vs Q E hr h=>?_)
 · obtain⟨N,H0,c,S,rg,td,g,s,i,sh,rfl,_⟩:=h
   rfl
 obtain⟨N,H0,c,S,rg,td,g,s,i,sh,rfl,hG,hsh,k⟩:=h
 obtain⟨Ji,e1⟩:∃ k:Nat,k=9:=⟨_,rfl⟩
 refine⟨_,(zC (zQ (i:=2) gq.nd rfl ‹0› (zW bQ (zM (zM (pv 0) rfl) rfl) (pv 1) (fun _ _=>rfl)))
     (zC (zQ (i:=3) gq.nd rfl ‹0› (yF (CX:=bR) (k:=Ji) ‹hr› zN (pv 0) (zA (pv 2) zD)))
     (zC (yB (PW.pt (xK (zL O9 (zR zZ (by rfl) T.jf PySem.boot_len (zA (pv 3) zD)) zF (zO _)) (xC (jY (yN (zM (pv 0) rfl)))))) (zE (yE (kO PySem.F.plainAttrs_list PySem.F.slot_list_append PySem.F.type_list_append yR (zM (pv 0) rfl) (zA (zM (pv 2) rfl) zD)))) zP)
     (zC (yB (zL yS (zR zZ (by rfl) T.jf PySem.boot_len (zA (pv 3) zD)) zF (zO _)) (zE (zK (zU yU (pv 1) zF))) zP)
     (zC (zQ (i:=4) gq.nd rfl ‹0› (zU RW (Sd (lG (x:="other") (M:=["self","place","sheet","targets","names"]) rfl (by rfl)) rfl (xH (zM (zM (pv 0) rfl) rfl)) (fun _ _ _ _=>HR (by exact (zM (pv 0) rfl)) (by dsimp only [dW] <;> rfl))) (yI (zA zS zD))))
     (zE (zK (kO PySem.F.plainAttrs_list PySem.F.slot_list_index PySem.F.type_list_index G6 (pv 4) (zA (zW bQ (pv 3) zF (fun _ _=>rfl)) zD))))))))),?_⟩
 subst e1
 obtain⟨dx,u,q1,q2,xs,p1,p2,p3,p4⟩:=hG.cst.pa
 obtain⟨x,hx,hS⟩:=uZ p4 hsh
 obtain⟨cv,g1,_⟩:=hG.go
 refine⟨_,rfl,g,_,c.dx,gF c s.ov cv,_,rfl,g1,T.aA,T.iV,rfl,c.pa,_,dx,_,_,rfl,hG.same _ _ p1,T.iU,T.dR,rfl,_,rfl,q1,_,_,_,rfl,rfl,cB.of (hG.same _ _ p2),zV hx,?_⟩
 refine⟨_,rfl,g,_,c.dx,gF c s.ov cv,JTg (Pt:=Pt) T,rfl,g1,rfl,_,rfl,?_⟩
 refine⟨N,H0,c,S,rg,td,g,s,x,sh,rfl,hG,hS,fun d H1 fd s1 hd=>?_⟩
 dsimp only [bO,List.set_cons_succ,List.set_cons_zero]
 refine⟨_,rfl,d,_,rfl,.inl (cB.of hd),_,_,rfl,rfl,_,rfl,aN (aN ?_)⟩
 refine⟨_,rfl,d,_,rfl,.inl (cB.of hd),rfl,_,rfl,bT ?_⟩
 exact⟨_,rfl,_,_,rfl,rfl,k _ s1⟩
def JLv (T:Txt K mg A):dw P w K mg base bR 10 A.az "leave":=⟨_,_,_,aeo A Pt,[],[],T.aA,T.Eg,aep T,T.Ax,.nil⟩
end
inductive Fin (rg:Rg) (N:Nm) (S:List oZ):Nat→Gs→Gs→Prop
 | over {i:Nat}{s:Gs}:s.ov=true→Fin rg N S i s s
 | done {i:Nat}{s:Gs}:s.ov=false→S.length≤i→Fin rg N S i s ⟨s.l,s.L++[Jf],s.D,true,s.ct⟩
 | step {i:Nat}{s:Gs}{sh:oZ}{sf:Gs}:s.ov=false→S[i]? = some sh→Fin rg N S (i+1) (fJ rg N s sh.2) sf→Fin rg N S i s sf
theorem Vc {rg:Rg}{N:Nm}{S:List oZ}{i:Nat}{s sf:Gs} (h:Fin rg N S i s sf) (ho:s.ov=true):sf=s:=by
 cases h with
 | over _=>rfl
 | done h _=>rw [ho] at h;cases h
 | step h _ _=>rw [ho] at h;cases h
def aaU (rg:Rg) (N:Nm) (S:List oZ):Prop:=∀ s,s.ov=false→∀ sh∈S,∀ (j:Nat) r y,sh.2[j]? = some r→r.wn=some y→N y.1.i∈(fJ rg N s (sh.2.take j)).l
def V4:Gs:=⟨[],[],[],false,none⟩
def aeq (A:cT) (Pt:Addr):Sp:=fun vs H Q _=>∃ N H0 c S rg g sf,vs=[.ref g]∧lK A N H0 c S rg Pt Fi g H V4∧aaU rg N S∧Fin rg N S 0 V4 sf∧∀ Oz H',aB H0 Oz→lK A N Oz c S rg Pt Fi g H' sf→Q .non H'
section
variable {P:Program}{w:World}{K:W.Frag}{mg:Str→Option Value}{base:Heap}{A:cT}{Pt:Addr}
variable (B:BMain mg base) {c0:Addr} (hc:A.aW.code=.ref c0) (hh:W.codeHdIn K c0 Pt=true)
include B hc hh
theorem aer (T:Txt K mg A):aV P w K mg base bR 11 A.pB A.pC ["self"] (aeq A Pt):=by
 refine T.HX.ok gR (fun vs H Q E h=>?_) (fun cdv A0 outer s H vs Q E hr h=>?_)
 · obtain⟨N,H0,c,S,rg,g,sf,rfl,_⟩:=h
   rfl
 obtain⟨N,H0,c,S,rg,g,sf,rfl,hG,hRw,hF,k⟩:=h
 obtain⟨Ls,e1⟩:∃ k:Nat,k=5:=⟨_,rfl⟩
 obtain⟨Jj,e2⟩:∃ k:Nat,k=10:=⟨_,rfl⟩
 obtain⟨XQ,e3⟩:∃ k:Nat,k=10:=⟨_,rfl⟩
 obtain⟨Lw,e4⟩:∃ k:Nat,k=4:=⟨_,rfl⟩
 refine⟨_,(zC (zQ (i:=1) gR.nd rfl ‹0› zF)
     (zC (wY PassesOwn.never (PW.pt (xK (jY (yN (zM (pv 0) rfl))) (xC (zL m5 (pv 1) (zR zZ (by rfl) T.jf PySem.boot_len (zA (zM (zM (pv 0) rfl) rfl) zD)) (zO _))))) (zC (zQ (i:=2) gR.nd rfl ‹0› (zW bQ (zM (zM (pv 0) rfl) rfl) (pv 1) (fun _ _=>rfl)))
     (zC (lu PassesOwn.never rfl (xH (yF (CX:=bR) (k:=Ls) ‹hr› zN (pv 0) (zA (pv 2) zD))) (yW (i:=3) gR.nd rfl ‹0›) (zE (yE (yF (CX:=bR) (k:=Jj) ‹hr› zN (pv 0) (zA (pv 2) (zA (pv 3) zD))))))
     (zE (zQ (i:=1) gR.nd rfl ‹0› (yF (CX:=bR) (k:=XQ) ‹hr› zN (pv 0) (zA (pv 1) zD)))))))
     (zE (yB (jY (yN (zM (pv 0) rfl))) (zE (yE (yF (CX:=bR) (k:=Lw) ‹hr› zN (pv 0) (zA (yA (zA zS zD)) zD)))) zP)))),?_⟩
 subst e1 e2 e3 e4
 have hS5:=hG.cst.gs.len
 have hGS:=hG.cst.gs
 refine⟨fun m σ H=>∃ Oz s v y,∃ i:Nat,σ=[some (.ref g),some (.int (i:Nat)),v,y]∧i≤S.length∧m=S.length - i∧aB H0 Oz∧lK A N Oz c S rg Pt Fi g H s∧s.L.length≤4*i∧s.l.length≤4*i∧Fin rg N S i s sf,⟨_,H0,V4,_,_,0,rfl,Nat.zero_le _,rfl,aB.refl _,hG,Nat.le_refl _,Nat.le_refl _,hF⟩,?_⟩
 rintro m σ H1 ⟨Oz,s,v,y,i,rfl,hi,rfl,sH,G,hL,hl,F⟩
 obtain⟨cv,g1,_⟩:=G.go
 refine⟨_,rfl,g,_,c.dx,gF c s.ov cv,_,rfl,g1,T.aA,T.eQ,rfl,_,rfl,?_⟩
 cases ho:s.ov with
 | true =>
   refine aN (aN ?_)
   refine⟨_,rfl,g,_,c.dx,gF c s.ov cv,_,rfl,g1,T.aA,T.eQ,rfl,_,rfl,?_⟩
   rw [ho]
   refine aN ?_
   have e:=Vc F ho
   refine k _ _ sH ?_
   rw [e];exact G
 | false =>
   refine bT ?_
   obtain⟨dx,u,q1,q2,xs,p1,p2,p3,p4⟩:=G.cst.pa
   have lens:=zX p4
   refine⟨_,rfl,_,rfl,g,_,c.dx,gF c s.ov cv,_,rfl,g1,T.aA,T.iV,rfl,c.pa,_,dx,_,_,rfl,G.same _ _ p1,T.iU,T.dR,rfl,q1,_,rfl,.inl (cB.of (G.same _ _ p2)),_,_,rfl,rfl,_,rfl,?_⟩
   rw [lens]
   cases F with
   | over z=>rw [ho] at z;cases z
   | done _ hle =>
     refine lq (fun c1=>?_) (fun c1=>?_)
     · have:=of_decide_eq_true c1;omega
     · refine⟨_,rfl,g,_,c.dx,gF c s.ov cv,_,rfl,g1,T.aA,T.eQ,rfl,_,rfl,?_⟩
       rw [ho]
       refine bT ?_
       refine⟨_,rfl,g,_,c.dx,gF c s.ov cv,JSt T (Pt:=Pt),rfl,g1,rfl,(by show 1≤sizeLine;decide),fun t ht=>?_⟩
       have s2:=zG ht (.tup Jf)
       exact⟨N,Oz,c,S,rg,_,g,s,t,Jf,rfl,G.mono s2,zB,by omega,fun H' G'=>k _ _ sH G'⟩
   | @step _ _ sh _ _ hsh F =>
     have hlt:i<S.length:=(List.getElem?_eq_some_iff.mp hsh).1
     refine lq (fun c1=>?_) (fun c1=>absurd (decide_eq_true (show (i:Int)<(S.length:Nat) by omega)) c1)
     obtain⟨x,hx,hR⟩:=uZ p4 hsh
     have hmem:=List.mem_of_getElem? hsh
     have hr4:=hGS.rows sh hmem
     have hre:=Eu (rg:=rg) (N:=N) sh.2 s
     generalize hs2:fJ rg N s sh.2=s2 at F hre
     refine⟨fun σ' H'=>∃ Oz v y,σ'=[some (.ref g),some (.int ((i+1:Nat):Int)),v,y]∧aB H0 Oz∧lK A N Oz c S rg Pt Fi g H' s2,fun σ' H' z=>?_,?_⟩
     · obtain⟨Oz,v,y,e,a1,a2⟩:=z
       exact⟨S.length - (i+1),by omega,Oz,_,v,y,i+1,e,by omega,rfl,a1,a2,by omega,by omega,F⟩
     refine⟨_,rfl,g,_,c.dx,gF c s.ov cv,_,rfl,g1,T.aA,T.iV,rfl,c.pa,_,dx,_,_,rfl,G.same _ _ p1,T.iU,T.dR,rfl,_,rfl,q1,_,_,_,rfl,rfl,cB.of (G.same _ _ p2),zV hx,?_⟩
     refine⟨_,rfl,g,_,c.dx,gF c s.ov cv,JTh T (Pt:=Pt),rfl,g1,rfl,_,rfl,?_⟩
     refine⟨N,Oz,c,S,rg,_,g,s,x,sh,rfl,G,hR,fun d H2 fd s2' hd=>?_⟩
     obtain⟨tt,tt1,_⟩:=G.lg
     have G2:=(G.mono s2').rebase hd (yK G.same fd) (zH tt1 fd) (zH G.db fd)
     have sB:=zG (yK G.same fd) (.lst [.int 0])
     refine⟨d,rfl,⟨_,cB.of hd⟩,?_⟩
     refine xL (xs:=[.int 0]) (fun j σ H'=>∃ v,σ=[some (.ref g),some (.int (i:Nat)),some x,v]∧lK A N (upd Oz d (.lst [.int 0])) c S rg Pt Fi g H' (if j=0 then s else s2)) ⟨_,rfl,by rw [if_pos rfl];exact G2⟩ (fun j σ H3 hj hw=>?_) (fun j x' σ H3 hx3 hw=>?_) (fun σ H3 hw=>?_)
     · obtain⟨v,rfl,G3⟩:=hw
       exact cB.of (G3.same _ _ zB)
     · cases j with
       | succ j=>simp at hx3
       | zero =>
         cases hx3
         obtain⟨v,rfl,G3⟩:=hw
         rw [if_pos rfl] at G3
         obtain⟨cv3,g3,_⟩:=G3.go
         refine⟨_,rfl,g,_,c.dx,gF c s.ov cv3,JTr B hc hh T,rfl,g3,rfl,_,rfl,_,rfl,?_⟩
         refine⟨N,_,c,S,rg,g,s,x,sh,rfl,G3,hR.kq (.of sB),hmem,by omega,by omega,hRw s ho sh hmem,fun H' G4=>⟨_,rfl,?_⟩⟩
         rw [if_neg (by omega),← hs2];exact G4
     · obtain⟨v,rfl,G3⟩:=hw
       rw [if_neg (show ¬ ([V.int 0].length=0) from Nat.succ_ne_zero 0)] at G3
       obtain⟨cv3,g3,_⟩:=G3.go
       refine⟨_,rfl,g,_,c.dx,gF c s2.ov cv3,JLv (Pt:=Pt) T,rfl,g3,rfl,_,rfl,?_⟩
       exact⟨N,_,c,S,rg,_,g,s2,i,sh,rfl,G3,hsh,fun H' s4=>⟨_,_,_,rfl,sH.trans sB,G3.mono s4⟩⟩
def JGo (T:Txt K mg A):dw P w K mg base bR 11 A.az "go":=⟨_,_,_,aeq A Pt,[],[],T.aA,T.K7,aer B hc hh T,T.HY,.nil⟩
end
theorem Kq.of0 {H H':Hp}{g C dx:Addr} (F:Fr [g] H H') (hg:H g=some (.ins C dx [])):Kq H H':=fun b o hb ho=>F b o hb (p7 fun e=>by
 rw [e,hg] at hb;cases hb;exact ho)
theorem Q0.fr {A:cT}{H H':Hp}{g:Addr}{o:HO} (F:Fr [g] H H') (hg:H g=some o) (h1:∀ dk q x,o≠oKn A dk q x) (h2:∀ l,o≠.lst l) {k:Addr}{x:Kn} (h:Q0 A H k x):Q0 A H' k x:=by
 obtain⟨dk,q,a,b⟩:=h
 exact⟨dk,q,F _ _ a (p7 (yJ a hg fun z=>h1 _ _ _ z.symm)),fun ws e=>⟨(b ws e).1,F _ _ (b ws e).2 (p7 (yJ (b ws e).2 hg fun z=>h2 _ z.symm))⟩⟩
theorem Qd {A:cT}{C dx:Addr}{v:V}{fs:List (Str × V)}:∀ dk q x,HO.ins C dx (("paper",v)::fs)≠oKn A dk q x:=by
 intro dk q x z
 cases x <;> (injection z with _ _ z;exact absurd (congrArg Prod.fst (List.cons.inj z).1) (show ‹"paper"› ≠ ‹"low"› by symm))
abbrev gI (c:GA):List (Str × V):=[("paper",.ref c.pa),("alone",.int 0),("kinds",.ref c.kd),("eaches",.ref c.ed),("together",.ref c.tg),("asked",.ref c.aq),("log",.ref c.lg),("doubles",.ref c.db),("over",.bl false)]
structure New (A:cT) (H:Hp) (c:GA) (S:List oZ) (H':Hp):Prop where
 kd:∃ kvs,H' c.kd=some (.dK kvs)∧Rc A H' kvs S
 ed:∃ kvs,H' c.ed=some (.dK kvs)∧EdR kvs S
 tg:H' c.tg=some (.dK [])
 Rf:H c.aq=none
 aq:H' c.aq=some (.dK [])
 Rh:H c.lg=none
 lg:H' c.lg=some (.lst [])
 UW:H c.db=none
 db:H' c.db=some (.lst [])
 ld:c.lg≠c.db
 ka:c.kd≠c.aq
 ea:c.ed≠c.aq
 ta:c.tg≠c.aq
def aqd (A:cT):Sp:=fun vs H Q _=>∃ N g dx pa S,vs=[.ref g,.ref pa,.int 0]∧H g=some (.ins A.az dx [])∧Rb A N H pa S∧GS N S ∧
 ∀ (c:GA) H',c.dx=dx→c.pa=pa→Fr [g] H H'→H' g=some (.ins A.az dx (gI c))→New A H c S H'→Q .non H'
def aqe (A:cT):Sp:=fun vs H Q _=>∃ N g dx pa S bx,vs=[.ref g,.ref pa,.ref bx]∧H g=some (.ins A.az dx [])∧Rb A N H pa S∧GS N S ∧
 ∀ (c:GA) H',c.pa=pa→c.bx=bx→Fr [g] H H'→H' g=some (oGo A c false .non)→New A H c S H'→Q .non H'
section
variable {P:Program}{w:World}{K:W.Frag}{mg:Str→Option Value}{base:Heap}{A:cT}
theorem aaX (T:Txt K mg A):aV P w K mg base bR 2 A.jt A.ju ["self","paper","alone"] (aqd A):=by
 have u5:=Ah (P:=P) (w:=w) (base:=base) T
 have Lx:=Jc (P:=P) (w:=w) (base:=base) T
 have Ew:=Bo (P:=P) (w:=w) (base:=base) T
 refine T.xT.ok wF (fun vs H Q E h=>?_) (fun cdv A0 outer s H vs Q E hr h=>?_)
 · obtain⟨N,g,dx,pa,S,rfl,_⟩:=h
   rfl
 obtain⟨N,g,dx,pa,S,rfl,hg,hP,hQ,k⟩:=h
 refine⟨_,(zC (yG (pv 0) (pv 1) rfl)
     (zC (yG (pv 0) (pv 2) rfl)
     (zC (yG (pv 0) (zT u5 ‹hr› rfl T.Dh T.Dg T.Df .nil zN (zA (pv 1) zD)) rfl)
     (zC (yG (pv 0) (zT Lx ‹hr› rfl T.Kf T.Ke T.Kd .nil zN (zA (pv 1) zD)) rfl)
     (zC (yG (pv 0) (zT Ew ‹hr› rfl T.Dl T.Dk T.Dj .nil zN (zA (pv 1) zD)) rfl)
     (zC (yG (pv 0) oN rfl)
     (zC (yG (pv 0) (yI zD) rfl)
     (zC (yG (pv 0) (yI zD) rfl)
     (zE (yG (pv 0) xR rfl)))))))))),?_⟩
 have cl:=T.aA
 have st:∀ {Ha:Hp}{o:HO},Fr [g] Ha (upd Ha g o):=fun {Ha o}=>(Fr.of (aB.refl _)).upd (List.mem_singleton.mpr rfl) o
 refine⟨_,rfl,_,rfl,g,_,dx,_,rfl,hg,cl,T.iV,by decide,?_⟩
 refine⟨_,rfl,_,rfl,g,_,dx,_,rfl,zB,cl,T.mG,(by show 1<1000;decide),?_⟩
 rw [yD]
 refine (show (∀ H1,Fr [g] H H1→H1 g=some (.ins A.az dx [("paper",.ref pa),("alone",.int 0)])→_)→_ from fun z=>z (upd H g (.ins A.az dx [("paper",.ref pa),("alone",.int 0)])) st zB) ?_
 intro H1 F1 g1
 have F01:Fr [g] H H1:=F1
 refine⟨_,rfl,N,pa,S,rfl,hP.kq (Kq.of0 F01 hg),hQ,fun kd kvs H2 fk s2 hk hK=>?_⟩
 have nkd:kd≠g:=Ne.symm (zH g1 fk)
 refine⟨_,rfl,g,_,dx,_,rfl,s2 _ _ g1,cl,T.mH,(by show 2<1000;decide),?_⟩
 refine (show (∀ H3,Fr [g] H2 H3→H3 g=some (.ins A.az dx [("paper",.ref pa),("alone",.int 0),("kinds",.ref kd)])→_)→_ from fun z=>z (upd H2 g (.ins A.az dx [("paper",.ref pa),("alone",.int 0),("kinds",.ref kd)])) st zB) ?_
 intro H3 F3 g3
 have F03:Fr [g] H H3:=(F01.trans (Fr.of s2)).trans F3
 refine⟨_,rfl,N,pa,S,rfl,hP.kq (Kq.of0 F03 hg),hQ,fun ed kv2 H4 fe s4 he hE=>?_⟩
 have ned:ed≠g:=Ne.symm (zH g3 fe)
 refine⟨_,rfl,g,_,dx,_,rfl,s4 _ _ g3,cl,T.qi,(by show 3<1000;decide),?_⟩
 refine (show (∀ H5,Fr [g] H4 H5→H5 g=some (.ins A.az dx [("paper",.ref pa),("alone",.int 0),("kinds",.ref kd),("eaches",.ref ed)])→_)→_ from fun z=>z (upd H4 g (.ins A.az dx [("paper",.ref pa),("alone",.int 0),("kinds",.ref kd),("eaches",.ref ed)])) st zB) ?_
 intro H5 F5 g5
 have F05:Fr [g] H H5:=(F03.trans (Fr.of s4)).trans F5
 refine⟨_,rfl,N,pa,S,rfl,hP.kq (Kq.of0 F05 hg),fun tg H6 ft s6 ht=>?_⟩
 have ntg:tg≠g:=Ne.symm (zH g5 ft)
 refine⟨_,rfl,g,_,dx,_,rfl,s6 _ _ g5,cl,T.iW,(by show 4<1000;decide),?_⟩
 refine (show (∀ H7,Fr [g] H6 H7→H7 g=some (.ins A.az dx [("paper",.ref pa),("alone",.int 0),("kinds",.ref kd),("eaches",.ref ed),("together",.ref tg)])→_)→_ from fun z=>z (upd H6 g (.ins A.az dx [("paper",.ref pa),("alone",.int 0),("kinds",.ref kd),("eaches",.ref ed),("together",.ref tg)])) st zB) ?_
 intro H7 F7 g7
 intro aq ha
 have s8:=zG ha (.dK [])
 have Rf:aq≠g:=Ne.symm (zH g7 ha)
 have a8:(upd H7 aq (.dK [])) aq=some (.dK []):=zB
 generalize upd H7 aq (HO.dK [])=H8 at s8 a8 ⊢
 refine⟨_,rfl,g,_,dx,_,rfl,s8 _ _ g7,cl,T.gj,(by show 5<1000;decide),?_⟩
 refine (show (∀ H9,Fr [g] H8 H9→H9 g=some (.ins A.az dx [("paper",.ref pa),("alone",.int 0),("kinds",.ref kd),("eaches",.ref ed),("together",.ref tg),("asked",.ref aq)])→_)→_ from fun z=>z (upd H8 g (.ins A.az dx [("paper",.ref pa),("alone",.int 0),("kinds",.ref kd),("eaches",.ref ed),("together",.ref tg),("asked",.ref aq)])) st zB) ?_
 intro H9 F9 g9
 refine⟨(by show 0≤sizeLine;decide),fun lg hl=>?_⟩
 have s10:=zG hl (.lst [])
 have Rh:lg≠g:=Ne.symm (zH g9 hl)
 have l10:(upd H9 lg (.lst [])) lg=some (.lst []):=zB
 generalize upd H9 lg (HO.lst [])=H10 at s10 l10 ⊢
 refine⟨_,rfl,g,_,dx,_,rfl,s10 _ _ g9,cl,T.lD,(by show 6<1000;decide),?_⟩
 refine (show (∀ XR,Fr [g] H10 XR→XR g=some (.ins A.az dx [("paper",.ref pa),("alone",.int 0),("kinds",.ref kd),("eaches",.ref ed),("together",.ref tg),("asked",.ref aq),("log",.ref lg)])→_)→_ from fun z=>z (upd H10 g (.ins A.az dx [("paper",.ref pa),("alone",.int 0),("kinds",.ref kd),("eaches",.ref ed),("together",.ref tg),("asked",.ref aq),("log",.ref lg)])) st zB) ?_
 intro XR F11 g11
 refine⟨(by show 0≤sizeLine;decide),fun db hdb=>?_⟩
 have s12:=zG hdb (.lst [])
 have UW:db≠g:=Ne.symm (zH g11 hdb)
 have d12:(upd XR db (.lst [])) db=some (.lst []):=zB
 generalize upd XR db (HO.lst [])=H12 at s12 d12 ⊢
 refine⟨_,rfl,g,_,dx,_,rfl,s12 _ _ g11,cl,T.oY,(by show 7<1000;decide),?_⟩
 refine (show (∀ Vd,Fr [g] H12 Vd→Vd g=some (.ins A.az dx [("paper",.ref pa),("alone",.int 0),("kinds",.ref kd),("eaches",.ref ed),("together",.ref tg),("asked",.ref aq),("log",.ref lg),("doubles",.ref db)])→_)→_ from fun z=>z (upd H12 g (.ins A.az dx [("paper",.ref pa),("alone",.int 0),("kinds",.ref kd),("eaches",.ref ed),("together",.ref tg),("asked",.ref aq),("log",.ref lg),("doubles",.ref db)])) st zB) ?_
 intro Vd F13 g13
 refine⟨_,rfl,g,_,dx,_,rfl,g13,cl,T.eQ,(by show 8<1000;decide),?_⟩
 have F14:Fr [g] Vd (upd Vd g (.ins A.az dx [("paper",.ref pa),("alone",.int 0),("kinds",.ref kd),("eaches",.ref ed),("together",.ref tg),("asked",.ref aq),("log",.ref lg),("doubles",.ref db),("over",.bl false)])):=st
 have Ve:Fr [g] H7 (upd Vd g (.ins A.az dx [("paper",.ref pa),("alone",.int 0),("kinds",.ref kd),("eaches",.ref ed),("together",.ref tg),("asked",.ref aq),("log",.ref lg),("doubles",.ref db),("over",.bl false)])):=((((((Fr.of s8).trans F9).trans (Fr.of s10)).trans F11).trans (Fr.of s12)).trans F13).trans F14
 have aqg:=((((Fr.of s4).trans F5).trans (Fr.of s6)).trans F7).trans Ve
 have F07:Fr [g] H H7:=(F05.trans (Fr.of s6)).trans F7
 have aqh:Fr [g] H9 (upd Vd g (.ins A.az dx [("paper",.ref pa),("alone",.int 0),("kinds",.ref kd),("eaches",.ref ed),("together",.ref tg),("asked",.ref aq),("log",.ref lg),("doubles",.ref db),("over",.bl false)])):=((((Fr.of s10).trans F11).trans (Fr.of s12)).trans F13).trans F14
 have aeu:Fr [g] XR (upd Vd g (.ins A.az dx [("paper",.ref pa),("alone",.int 0),("kinds",.ref kd),("eaches",.ref ed),("together",.ref tg),("asked",.ref aq),("log",.ref lg),("doubles",.ref db),("over",.bl false)])):=((Fr.of s12).trans F13).trans F14
 have kd7:H7 kd=some (.dK kvs):=F7 _ _ (s6 _ _ (F5 _ _ (s4 _ _ (F3 _ _ hk (p7 nkd))) (p7 nkd))) (p7 nkd)
 have ed7:H7 ed=some (.dK kv2):=F7 _ _ (s6 _ _ (F5 _ _ he (p7 ned))) (p7 ned)
 have tg7:H7 tg=some (.dK []):=F7 _ _ ht (p7 ntg)
 have hall:=F07.trans Ve
 have lgF:XR lg=some (.lst []):=F11 _ _ l10 (p7 Rh)
 refine k ⟨dx,pa,kd,ed,tg,aq,lg,db,pa⟩ _ rfl rfl hall zB ⟨⟨kvs,Ve _ _ kd7 (p7 nkd),fun z hz=>?_⟩,⟨kv2,Ve _ _ ed7 (p7 ned),hE⟩,Ve _ _ tg7 (p7 ntg),Ja F07 (p7 Rf) ha,aqh _ _ (F9 _ _ a8 (p7 Rf)) (p7 Rf),Ja (F07.trans ((Fr.of s8).trans F9)) (p7 Rh) hl,aeu _ _ lgF (p7 Rh),Ja (((F07.trans ((Fr.of s8).trans F9)).trans (Fr.of s10)).trans F11) (p7 UW) hdb,F14 _ _ (F13 _ _ d12 (p7 UW)) (p7 UW),zH lgF hdb,zH kd7 ha,zH ed7 ha,zH tg7 ha⟩
 obtain⟨kp,k1,k2⟩:=hK z hz
 exact⟨kp,k1,((k2.kq (.of s2)).fr F3 (s2 _ _ g1) Qd (by intro l z;cases z)).fr aqg g3 Qd (by intro l z;cases z)⟩
theorem aev (T:Txt K mg A):aV P w K mg base bR 4 A.jy A.jz ["self","paper","box"] (aqe A):=by
 have yp:=aaX (P:=P) (w:=w) (base:=base) T
 refine T.xX.ok wH (fun vs H Q E h=>?_) (fun cdv A0 outer s H vs Q E hr h=>?_)
 · obtain⟨N,g,dx,pa,S,bx,rfl,_⟩:=h
   rfl
 obtain⟨N,g,dx,pa,S,bx,rfl,hg,hP,hQ,k⟩:=h
 refine⟨_,(zC (yE (qD T.Gi yp ‹hr› rfl T.Xb T.xU zN (zA (pv 0) (zA (pv 1) (zA zF zD)))))
     (zC (yG (pv 0) (pv 2) rfl)
     (zE (yG (pv 0) yM rfl)))),?_⟩
 refine⟨_,rfl,_,rfl,N,g,dx,pa,S,rfl,hg,hP,hQ,fun c H1 e1 e2 F1 h1 Nw=>?_⟩
 subst e1 e2
 refine⟨_,rfl,_,rfl,g,_,c.dx,_,rfl,h1,T.aA,T.wy,(by show 9<1000;decide),?_⟩
 refine⟨_,rfl,g,_,c.dx,_,rfl,zB,T.aA,T.gn,(by show 10<1000;decide),?_⟩
 rw [yD]
 have F2:Fr [g] H1 (upd H1 g (oGo A { c with bx:=bx } false .non)):=(Fr.of (aB.refl _)).upd (List.mem_singleton.mpr rfl) _
 have nn:∀ {x:Addr}{o:HO},H1 x=some o→(∀ C dx fs,o≠.ins C dx fs)→(upd H1 g (oGo A { c with bx:=bx } false .non)) x=some o:=fun {x o} hx hn=>F2 _ _ hx (p7 (yJ hx h1 (hn _ _ _)))
 obtain⟨⟨kv,n1,n2⟩,⟨kv2,n3,n4⟩,n5,n6,n7,n8,n9,n10,n11,n12,n13,n14,n15⟩:=Nw
 refine k { c with bx:=bx } _ rfl rfl (F1.trans F2) zB ⟨⟨kv,nn n1 (fun _ _ _ z=>by cases z),fun z hz=>?_⟩,⟨kv2,nn n3 (fun _ _ _ z=>by cases z),n4⟩,nn n5 (fun _ _ _ z=>by cases z),n6,nn n7 (fun _ _ _ z=>by cases z),n8,nn n9 (fun _ _ _ z=>by cases z),n10,nn n11 (fun _ _ _ z=>by cases z),n12,n13,n14,n15⟩
 obtain⟨kp,k1,k2⟩:=n2 z hz
 exact⟨kp,k1,k2.fr F2 h1 Qd (by intro l z;cases z)⟩
def RsR (F:Addr→Prop) (H:Hp) (x:V) (sf:Gs):Prop:=∃ p lg db ts cv,x=.ref p∧F lg∧F db∧lg≠db∧H p=some (.tup [.bl (decide (sf.ct=none)),.ref lg,.ref db,cv])∧H lg=some (.lst ts)∧Paired (mQ H) ts sf.L∧H db=some (.lst (sf.D.map V.str))∧Q6 H cv sf.ct
def aqi (A:cT) (Pt:Addr):Sp:=fun vs H Q _=>∃ N pa bx S rg sf,vs=[.ref pa,.ref bx]∧Rb A N H pa S∧GS N S∧XD H bx S rg∧H Pt=some (.mW Fi)∧aaU rg N S∧Fin rg N S 0 V4 sf∧∀ x H',aB H H'→RsR (fun a=>H a=none) H' x sf→Q x H'
variable {Pt:Addr} (B:BMain mg base) {c0:Addr} (hc:A.aW.code=.ref c0) (hh:W.codeHdIn K c0 Pt=true)
include B hc hh
theorem Y8 (T:Txt K mg A):aV P w K mg base bR 12 A.pK A.uq ["paper","box"] (aqi A Pt):=by
 have yq:=aev (P:=P) (w:=w) (base:=base) T
 refine T.Nj.ok Ac (fun vs H Q E h=>?_) (fun cdv A0 outer s H vs Q E hr h=>?_)
 · obtain⟨N,pa,bx,S,rg,sf,rfl,_⟩:=h
   rfl
 obtain⟨N,pa,bx,S,rg,sf,rfl,hP,hQ,⟨b,hb,hB⟩,hT,hRw,hF,k⟩:=h
 obtain⟨k_go,e1⟩:∃ k:Nat,k=11:=⟨_,rfl⟩
 refine⟨_,(zC (zQ (i:=2) Ac.nd rfl ‹0› (yY T.Uo yq ‹hr› rfl T.Xa T.xY .nil zN (zA (pv 0) (zA (pv 1) zD))))
     (zC (yE (w5 (CX:=bR) (k:=k_go) ‹hr› zN (pv 2)))
     (zE (zK (yA (zA (xG xO (zM (pv 2) rfl) yM (zO _)) (zA (zM (pv 2) rfl) (zA (zM (pv 2) rfl) (zA (zM (pv 2) rfl) zD))))))))),?_⟩
 subst e1
 refine⟨_,rfl,_,rfl,fun g dx ng ndx ne=>?_⟩
 have s1:=yC ng ndx (.ins A.az dx [])
 have hg1:(upd (upd H dx (.own g)) g (.ins A.az dx [])) g=some (.ins A.az dx []):=zB
 generalize upd (upd H dx (.own g)) g (.ins A.az dx [])=H1 at s1 hg1 ⊢
 refine⟨N,g,dx,pa,S,bx,rfl,hg1,hP.kq (.of s1),hQ,fun c H2 h2 h3 F h1 Nw=>⟨rfl,?_⟩⟩
 subst h2 h3
 have sH:aB H H2:=fun x u hx=>F _ _ (s1 _ _ hx) (p7 (zH hx ng))
 obtain⟨⟨kv,n1,n2⟩,⟨kv2,n3,n4⟩,n5,n6,n7,n8,n9,n10,n11,n12,n13,n14,n15⟩:=Nw
 have m1:=yK s1 n6
 have m2:=yK s1 n8
 have m3:=yK s1 n10
 generalize hH0:dels H2 [g,c.aq,c.lg,c.db]=H0
 have in0:∀ {x:Addr},x≠g→x≠c.aq→x≠c.lg→x≠c.db→H0 x=H2 x:=fun {x} a1 a2 a3 a4=>by
   rw [← hH0,xA]
   intro z
   simp only [List.mem_cons,List.not_mem_nil,or_false] at z
   rcases z with z | z | z | z
   · exact a1 z
   · exact a2 z
   · exact a3 z
   · exact a4 z
 have Vf:∀ {x:Addr},x∈[g,c.aq,c.lg,c.db]→H0 x=none:=fun {x} z=>by rw [← hH0];exact su z
 have Vg:aB H H0:=fun x u hx=>by
   rw [in0 (zH hx ng) (zH hx m1) (zH hx m2) (zH hx m3)];exact sH _ _ hx
 have keep:∀ {x:Addr}{o:HO},H2 x=some o→x≠g→x≠c.aq→(∀ q,o≠.lst q)→H0 x=some o:=fun {x o} hx a1 a2 hn=>by
   rw [in0 a1 a2 (yJ hx n9 (hn _)) (yJ hx n11 (hn _))];exact hx
 have dg:∀ {x:Addr}{q:List (Key × V)},H2 x=some (.dK q)→x≠g:=fun {x q} hx=>yJ hx h1 (by intro z;cases z)
 have s02:aB H0 H2:=fun x u hx=>by
   by_cases e:x∈[g,c.aq,c.lg,c.db]
   · rw [Vf e] at hx;cases hx
   · rw [← hH0,xA e] at hx;exact hx
 have G0:lK A N H0 c S rg Pt Fi g H2 V4:=by
   refine⟨s02,⟨hP.kq (.of Vg),⟨b,Vg _ _ hb,fun r hr=>?_⟩,Vg _ _ hT,⟨kv,keep n1 (dg n1) n13 (fun _ z=>by cases z),fun z hz=>?_⟩,⟨kv2,keep n3 (dg n3) n14 (fun _ z=>by cases z),n4⟩,keep n5 (dg n5) n15 (fun _ z=>by cases z),hQ⟩,Vf (by simp),Vf (by simp),Vf (by simp),Vf (by simp),n12,⟨.non,h1,rfl⟩,⟨[],n7,⟨Nat.le_refl _,(fun z hz=>by cases hz),fun _ _=>rfl⟩,(fun z d hz=>by cases hz)⟩,⟨[],n9,.nil⟩,n11⟩
   · rcases hB r hr with ⟨t,e1,e2⟩ | e1
     · exact .inl ⟨t,e1,Vg _ _ e2⟩
     · exact .inr e1
   · obtain⟨kp,k1,dk,q',k2,k3⟩:=n2 z hz
     have nl:∀ (l:List V),HO.lst l≠oKn A dk q' z.kd:=by intro l e;cases hk:z.kd <;> (rw [hk] at e;cases e)
     have nd:∀ (l:List (Key × V)),HO.dK l≠oKn A dk q' z.kd:=by intro l e;cases hk:z.kd <;> (rw [hk] at e;cases e)
     refine⟨kp,k1,dk,q',keep k2 (yJ k2 h1 (fun z=>Qd _ _ _ z.symm)) (yJ k2 n7 (fun z=>nd _ z.symm)) (fun _ z=>nl _ z.symm),fun ws e=>⟨(k3 ws e).1,?_⟩⟩
     obtain⟨k4,k5⟩:=k3 ws e
     have ne:∀ {b:Addr},H2 b=some (.lst [])→q'≠b:=fun {b} hb=>yJ k5 hb (fun z=>k4 (by injection z with z;exact List.map_eq_nil_iff.mp z))
     rw [in0 (yJ k5 h1 (by intro z;cases z)) (yJ k5 n7 (by intro z;cases z)) (ne n9) (ne n11)];exact k5
 refine⟨_,rfl,g,_,c.dx,gF c false .non,JGo B hc hh T,rfl,h1,rfl,?_⟩
 refine⟨N,H0,c,S,rg,g,sf,rfl,G0,hRw,hF,fun Oz H3 s3 G3=>?_⟩
 obtain⟨cv,g3,c3⟩:=G3.go
 refine⟨_,rfl,g,_,c.dx,gF c sf.ov cv,_,rfl,g3,T.aA,T.gn,rfl,rfl,?_⟩
 refine⟨_,rfl,g,_,c.dx,gF c sf.ov cv,_,rfl,g3,T.aA,T.lD,rfl,_,rfl,g,_,c.dx,gF c sf.ov cv,_,rfl,g3,T.aA,T.oY,rfl,_,rfl,g,_,c.dx,gF c sf.ov cv,_,rfl,g3,T.aA,T.gn,rfl,(by show 4≤sizeLine;decide),fun p hp=>?_⟩
 have s4:=zG hp (.tup [.bl (decide (cv=.non)),.ref c.lg,.ref c.db,cv])
 have G4:=G3.mono s4
 obtain⟨ts,t1,t2⟩:=G4.lg
 have ec:decide (cv=V.non)=decide (sf.ct=none):=by
   cases hct:sf.ct with
   | none=>rw [hct] at c3;rw [show cv=V.non from c3];rfl
   | some q =>
     rw [hct] at c3
     obtain⟨a,rfl,_⟩:=(show mQ H3 cv _ from c3)
     rfl
 refine k (.ref p) _ (((Vg.trans s3).trans G3.same).trans s4) ⟨p,c.lg,c.db,ts,cv,rfl,m2,m3,n12,?_,t1,t2,G4.db,c3.kq (.of s4)⟩
 rw [← ec];exact zB
end
inductive Tr where
 | leaf (v:V)
 | lst (l:List Tr)
 | tup (l:List Tr)
def mU:V→Prop
 | .non=>True
 | .bl _=>True
 | .int _=>True
 | .str _=>True
 | _=>False
def fD (F:Addr→Prop) (H:Hp):Nat→V→Tr→Prop
 | _,x,.leaf v=>x=v∧mU v
 | 0,_,_=>False
 | n+1,x,.lst l=>∃ a xs,x=.ref a∧H a=some (.lst xs)∧xs.length≤1000∧Paired (fD F H n) xs l∧F a
 | n+1,x,.tup l=>∃ a xs,x=.ref a∧H a=some (.tup xs)∧xs.length≤1000∧Paired (fD F H n) xs l
theorem fD.same {F:Addr→Prop}{H H':Hp} (s:aB H H'):∀ {n:Nat}{x:V}{t:Tr},fD F H n x t→fD F H' n x t
 | 0,_,.leaf _,h=>h
 | _+1,_,.leaf _,h=>h
 | 0,_,.lst _,h=>h.elim
 | 0,_,.tup _,h=>h.elim
 | n+1,_,.lst _,⟨a,xs,e,h1,h2,h3,h4⟩=>⟨a,xs,e,s _ _ h1,h2,zJ h3 fun _ _=>fD.same s,h4⟩
 | n+1,_,.tup _,⟨a,xs,e,h1,h2,h3⟩=>⟨a,xs,e,s _ _ h1,h2,zJ h3 fun _ _=>fD.same s⟩
theorem fD.weak {F G:Addr→Prop}{H:Hp} (f:∀ a,F a→G a):∀ {n:Nat}{x:V}{t:Tr},fD F H n x t→fD G H n x t
 | 0,_,.leaf _,h=>h
 | _+1,_,.leaf _,h=>h
 | 0,_,.lst _,h=>h.elim
 | 0,_,.tup _,h=>h.elim
 | n+1,_,.lst _,⟨a,xs,e,h1,h2,h3,h4⟩=>⟨a,xs,e,h1,h2,zJ h3 fun _ _=>fD.weak f,f _ h4⟩
 | n+1,_,.tup _,⟨a,xs,e,h1,h2,h3⟩=>⟨a,xs,e,h1,h2,zJ h3 fun _ _=>fD.weak f⟩
theorem fD.upd {F:Addr→Prop}{H:Hp}{m:Addr}{l0:List V}{o:HO} (hm:H m=some (.lst l0)) (hF:¬ F m):∀ {n:Nat}{x:V}{t:Tr},fD F H n x t→fD F (L2.upd H m o) n x t
 | 0,_,.leaf _,h=>h
 | _+1,_,.leaf _,h=>h
 | 0,_,.lst _,h=>h.elim
 | 0,_,.tup _,h=>h.elim
 | n+1,_,.lst _,⟨a,xs,e,h1,h2,h3,h4⟩=>⟨a,xs,e,(zI (show a≠m from fun z=>hF (by rw [← z];exact h4))).trans h1,h2,zJ h3 fun _ _=>fD.upd hm hF,h4⟩
 | n+1,_,.tup _,⟨a,xs,e,h1,h2,h3⟩=>⟨a,xs,e,(zI (yJ h1 hm (fun z=>nomatch z))).trans h1,h2,zJ h3 fun _ _=>fD.upd hm hF⟩
abbrev TrR:=fD (fun _=>True)
theorem fD.r {F:Addr→Prop}{H:Hp}{n:Nat}{x:V}{t:Tr} (h:fD F H n x t):TrR H n x t:=fD.weak (fun _ _=>True.intro) h
theorem fD.up {F:Addr→Prop}{H:Hp}:∀ {n:Nat}{x:V}{t:Tr},fD F H n x t→fD F H (n+1) x t
 | 0,_,.leaf _,h=>h
 | _+1,_,.leaf _,h=>h
 | 0,_,.lst _,h=>h.elim
 | 0,_,.tup _,h=>h.elim
 | n+1,_,.lst _,⟨a,xs,e,h1,h2,h3,h4⟩=>⟨a,xs,e,h1,h2,zJ h3 fun _ _=>fD.up,h4⟩
 | n+1,_,.tup _,⟨a,xs,e,h1,h2,h3⟩=>⟨a,xs,e,h1,h2,zJ h3 fun _ _=>fD.up⟩
def aql (n:Nat):Sp:=fun vs H Q _=>∃ x y t m,vs=[x,y]∧m<n∧TrR H m x t∧TrR H m y t∧∀ H',aB H H'→Q (.bl true) H'
section
variable {P:Program}{w:World}{K:W.Frag}{mg:Str→Option Value}{base:Heap}{A:cT}
theorem Ly (T:Txt K mg A):∀ n,aV P w K mg base bR (n+1) A.m9 A.qM ["_law_found","_law_due"] (aql n)
 | 0=>⟨fun vs H Q E h=>by obtain⟨x,y,t,m,_,h,_⟩:=h;omega,fun _ _ _ _ _ _ _ _ _ _ _ _ _ h=>by obtain⟨x,y,t,m,_,h,_⟩:=h;omega⟩
 | n+1=>by
   have iD:=Ly T n
   refine T.Ks.ok wJ (fun vs H Q E h=>?_) (fun cdv A0 outer s H vs Q E hr h=>?_)
   · obtain⟨x,y,t,m,rfl,_⟩:=h
     rfl
   obtain⟨x,y,t,m,rfl,hm,hx,hy,q⟩:=h
   refine⟨_,(zC (yB (yN (zR rY (by rfl) T.aF Bt.isinstance (zA (pv 1) (zA (yA (zA (yX (v:=.ty "list") rfl T.pX Bt.list rfl) (zA (yX (v:=.ty "tuple") rfl T.Qa Bt.tuple rfl) zD))) zD)))) (zC (yB (PW.pt (vh (zL Rz (zR yQ (by rfl) T.aF Bt.isinstance (zA (pv 1) (zA (yX (v:=.ty "list") rfl T.pX Bt.list rfl) zD))) (zR yQ (by rfl) T.aF Bt.isinstance (zA (pv 0) (zA (yX (v:=.ty "list") rfl T.pX Bt.list rfl) zD))) (zO _)) (o7 (jY (yN (zR rY (by rfl) T.aF Bt.isinstance (zA (pv 0) (zA (yA (zA (yX (v:=.ty "list") rfl T.pX Bt.list rfl) (zA (yX (v:=.ty "tuple") rfl T.Qa Bt.tuple rfl) zD))) zD)))))))) (zE (zK xR)) zP)
     (zC (yB (zL Rz (zR zZ (by rfl) T.jf PySem.boot_len (zA (pv 0) zD)) (zR zZ (by rfl) T.jf PySem.boot_len (zA (pv 1) zD)) (zO _)) (zE (zK xR)) zP)
     (zC (lu PassesOwn.never rfl (Qq rfl T.W9 (zA (zR zZ (by rfl) T.jf PySem.boot_len (zA (pv 1) zD)) zD)) (yW (i:=2) wJ.nd rfl ‹0›) (zE (yB (jY (yN (zT iD ‹hr› rfl T.jT T.jR T.jQ .nil zN (zA (zW (bQ.or zY) (pv 0) (pv 2) (fun _ _=>rfl)) (zA (zW (bQ.or zY) (pv 1) (pv 2) (fun _ _=>rfl)) zD))))) (zE (zK xR)) zP)))
     (zE (zK xR))))) zP)
     (zC (yB (zL xO (pv 1) yM (zO _)) (zE (zK (xG xO (pv 0) yM (zO _)))) zP)
     (zC (yB (PW.pt (vh (yN (zR yQ (by rfl) T.aF Bt.isinstance (zA (pv 1) (zA (yX (v:=.ty "bool") rfl T.yd Bt.bool rfl) zD)))) (o7 (yN (zR yQ (by rfl) T.aF Bt.isinstance (zA (pv 0) (zA (yX (v:=.ty "bool") rfl T.yd Bt.bool rfl) zD))))))) (zE (zK (wU (zR yQ (by rfl) T.aF Bt.isinstance (zA (pv 1) (zA (yX (v:=.ty "bool") rfl T.yd Bt.bool rfl) zD))) (wU (zR yQ (by rfl) T.aF Bt.isinstance (zA (pv 0) (zA (yX (v:=.ty "bool") rfl T.yd Bt.bool rfl) zD))) (BK (xG yS (pv 0) (pv 1) (zO _))))))) zP)
     (zC (yB (yN (zR yQ (by rfl) T.aF Bt.isinstance (zA (pv 1) (zA (yX (v:=.ty "str") rfl T.T9 Bt.str rfl) zD)))) (zE (zK (wU (zR yQ (by rfl) T.aF Bt.isinstance (zA (pv 0) (zA (yX (v:=.ty "str") rfl T.T9 Bt.str rfl) zD))) (BK (xG yS (pv 0) (pv 1) (zO _)))))) zP)
     (zE (zK (wU (zR yQ (by rfl) T.aF Bt.isinstance (zA (pv 0) (zA (yX (v:=.ty "int") rfl T.adZ Bt.int rfl) zD))) (BK (xG yS (pv 0) (pv 1) (zO _)))))))))),?_⟩
   cases t with
   | leaf v =>
     obtain⟨rfl,hv⟩:x=v∧mU v:=by cases m <;> exact hx
     obtain⟨rfl,_⟩:y=x∧mU x:=by cases m <;> exact hy
     refine⟨_,rfl,(by show 2≤sizeLine;decide),fun t1 ht1=>?_⟩
     have s1:=zG ht1 (.tup [.ty "list",.ty "tuple"])
     have q1:=q _ s1
     cases y with
     | non=>exact⟨_,t1,_,_,_,rfl,zB,rfl,.old .non,xE T.Bd T.yf,_,rfl,aN ⟨_,rfl,rfl,_,rfl,bT ⟨_,rfl,rfl,q1⟩⟩⟩
     | bl b =>
       refine⟨_,t1,_,_,_,rfl,zB,rfl,.old (.bl b),xE T.KN T.Ir,_,rfl,aN ⟨_,rfl,rfl,_,rfl,aN ?_⟩⟩
       have q2:Q (.bl (decide (V.bl b=V.bl b))) (upd H t1 (.tup [.ty "list",.ty "tuple"])):=by rw [decide_eq_true rfl];exact q1
       exact⟨_,rfl,_,_,_,_,rfl,rfl,.old (.bl b),T.nG,_,rfl,bT ⟨_,rfl,_,_,_,_,rfl,rfl,.old (.bl b),T.nG,_,rfl,bT ⟨_,rfl,_,_,_,_,rfl,rfl,.old (.bl b),T.nG,_,rfl,bT ⟨_,rfl,_,rfl,rfl,q2⟩⟩⟩⟩
     | int i =>
       have q2:Q (.bl (decide (V.int i=V.int i))) (upd H t1 (.tup [.ty "list",.ty "tuple"])):=by rw [decide_eq_true rfl];exact q1
       refine⟨_,t1,_,_,_,rfl,zB,rfl,.old (.int i),xE T.N6 T.KQ,_,rfl,aN ⟨_,rfl,rfl,_,rfl,aN ?_⟩⟩
       refine⟨_,rfl,_,_,_,_,rfl,rfl,.old (.int i),T.DP,_,rfl,aN ⟨_,rfl,_,_,_,_,rfl,rfl,.old (.int i),T.DP,_,rfl,aN ?_⟩⟩
       refine⟨_,rfl,_,_,_,_,rfl,rfl,.old (.int i),T.QX,_,rfl,aN ?_⟩
       exact⟨_,rfl,_,_,_,_,rfl,rfl,.old (.int i),T.QW,_,rfl,bT ⟨_,rfl,_,rfl,rfl,q2⟩⟩
     | str z =>
       have q2:Q (.bl (decide (V.str z=V.str z))) (upd H t1 (.tup [.ty "list",.ty "tuple"])):=by rw [decide_eq_true rfl];exact q1
       refine⟨_,t1,_,_,_,rfl,zB,rfl,.old (.str z),xE T.N7 T.KR,_,rfl,aN ⟨_,rfl,rfl,_,rfl,aN ?_⟩⟩
       refine⟨_,rfl,_,_,_,_,rfl,rfl,.old (.str z),T.DQ,_,rfl,aN ⟨_,rfl,_,_,_,_,rfl,rfl,.old (.str z),T.DQ,_,rfl,aN ?_⟩⟩
       refine⟨_,rfl,_,_,_,_,rfl,rfl,.old (.str z),T.ye,_,rfl,bT ?_⟩
       exact⟨_,rfl,_,_,_,_,rfl,rfl,.old (.str z),T.ye,_,rfl,bT ⟨_,rfl,_,rfl,rfl,q2⟩⟩
     | _=>exact hv.elim
   | lst l =>
     cases m with
     | zero=>exact hx.elim
     | succ m =>
       obtain⟨a,xs,rfl,ha,hxl,hxs,_⟩:=hx
       obtain⟨b,ys,rfl,hb,hyl,hys,_⟩:=hy
       have lx:=zX hxs
       have ly:=zX hys
       refine⟨_,rfl,(by show 2≤sizeLine;decide),fun t1 ht1=>?_⟩
       have s1:=zG ht1 (.tup [.ty "list",.ty "tuple"])
       refine⟨_,t1,_,_,_,rfl,zB,rfl,.old (.lst (s1 _ _ hb)),xE T.nH T.vW,_,rfl,bT ?_⟩
       refine⟨_,rfl,_,_,_,_,rfl,rfl,.old (.lst (s1 _ _ hb)),T.nH,_,rfl,_,_,_,_,rfl,rfl,.old (.lst (s1 _ _ ha)),T.nH,rfl,_,rfl,aN ?_⟩
       refine⟨_,rfl,(by show 2≤sizeLine;decide),fun t2 Q4=>?_⟩
       have s2:=zG Q4 (.tup [.ty "list",.ty "tuple"])
       refine⟨_,t2,_,_,_,rfl,zB,rfl,.old (.lst (s2 _ _ (s1 _ _ ha))),xE T.nH T.vW,_,rfl,aN ?_⟩
       have s12:=s1.trans s2
       refine⟨_,rfl,a,_,rfl,.inl (cB.of (s12 _ _ ha)),_,rfl,b,_,rfl,.inl (cB.of (s12 _ _ hb)),rfl,_,rfl,?_⟩
       have el:(!decide (V.int ((xs.length:Nat):Int)=V.int ((ys.length:Nat):Int)))=false:=by rw [lx,ly];simp
       refine ad4 el ?_
       refine⟨_,rfl,b,_,rfl,.inl (cB.of (s12 _ _ hb)),_,rfl,(by omega),(by omega),?_⟩
       rw [Int.toNat_natCast]
       refine Cq (fun i σ G=>∃ u,σ=[some (.ref a),some (.ref b),u]∧aB H G) ⟨_,rfl,s12⟩ (fun i σ G hi hw=>?_) (fun σ G hw=>?_)
       · obtain⟨u,rfl,sG⟩:=hw
         have hiy:i<ys.length:=by simpa using hi
         obtain⟨y,hy⟩:∃ y,ys[i]? = some y:=⟨_,List.getElem?_eq_getElem hiy⟩
         obtain⟨x,hx⟩:∃ x,xs[i]? = some x:=⟨_,List.getElem?_eq_getElem (by omega)⟩
         obtain⟨t,ht,hxt⟩:=yO hxs hx
         obtain⟨t',ht',hyt⟩:=yO hys hy
         rw [ht] at ht';cases ht'
         have ex:jD xs (0+(i:Int))=some x:=by rw [Int.zero_add];exact zV hx
         have ey:jD ys (0+(i:Int))=some y:=by rw [Int.zero_add];exact zV hy
         refine⟨_,rfl,_,rfl,.inl ⟨a,_,_,_,rfl,rfl,cB.of (sG _ _ ha),ex,_,rfl,_,rfl,.inl ⟨b,_,_,_,rfl,rfl,cB.of (sG _ _ hb),ey,?_⟩⟩⟩
         exact⟨_,_,t,m,rfl,by omega,fD.same sG hxt,fD.same sG hyt,fun H' s'=>⟨_,rfl,aN ⟨_,rfl,sG.trans s'⟩⟩⟩
       · obtain⟨u,rfl,sG⟩:=hw
         exact q _ sG
   | tup l =>
     cases m with
     | zero=>exact hx.elim
     | succ m =>
       obtain⟨a,xs,rfl,ha,hxl,hxs⟩:=hx
       obtain⟨b,ys,rfl,hb,hyl,hys⟩:=hy
       have lx:=zX hxs
       have ly:=zX hys
       refine⟨_,rfl,(by show 2≤sizeLine;decide),fun t1 ht1=>?_⟩
       have s1:=zG ht1 (.tup [.ty "list",.ty "tuple"])
       refine⟨_,t1,_,_,_,rfl,zB,rfl,.old (.tup (s1 _ _ hb)),xE T.lC T.tQ,_,rfl,bT ?_⟩
       refine⟨_,rfl,_,_,_,_,rfl,rfl,.old (.tup (s1 _ _ hb)),T.lC,_,rfl,_,_,_,_,rfl,rfl,.old (.tup (s1 _ _ ha)),T.lC,rfl,_,rfl,aN ?_⟩
       refine⟨_,rfl,(by show 2≤sizeLine;decide),fun t2 Q4=>?_⟩
       have s2:=zG Q4 (.tup [.ty "list",.ty "tuple"])
       refine⟨_,t2,_,_,_,rfl,zB,rfl,.old (.tup (s2 _ _ (s1 _ _ ha))),xE T.lC T.tQ,_,rfl,aN ?_⟩
       have s12:=s1.trans s2
       refine⟨_,rfl,a,_,rfl,.inr (eY.of (s12 _ _ ha)),_,rfl,b,_,rfl,.inr (eY.of (s12 _ _ hb)),rfl,_,rfl,?_⟩
       have el:(!decide (V.int ((xs.length:Nat):Int)=V.int ((ys.length:Nat):Int)))=false:=by rw [lx,ly];simp
       refine ad4 el ?_
       refine⟨_,rfl,b,_,rfl,.inr (eY.of (s12 _ _ hb)),_,rfl,(by omega),(by omega),?_⟩
       rw [Int.toNat_natCast]
       refine Cq (fun i σ G=>∃ u,σ=[some (.ref a),some (.ref b),u]∧aB H G) ⟨_,rfl,s12⟩ (fun i σ G hi hw=>?_) (fun σ G hw=>?_)
       · obtain⟨u,rfl,sG⟩:=hw
         have hiy:i<ys.length:=by simpa using hi
         obtain⟨y,hy⟩:∃ y,ys[i]? = some y:=⟨_,List.getElem?_eq_getElem hiy⟩
         obtain⟨x,hx⟩:∃ x,xs[i]? = some x:=⟨_,List.getElem?_eq_getElem (by omega)⟩
         obtain⟨t,ht,hxt⟩:=yO hxs hx
         obtain⟨t',ht',hyt⟩:=yO hys hy
         rw [ht] at ht';cases ht'
         have ex:jD xs (0+(i:Int))=some x:=by rw [Int.zero_add];exact zV hx
         have ey:jD ys (0+(i:Int))=some y:=by rw [Int.zero_add];exact zV hy
         refine⟨_,rfl,_,rfl,.inr ⟨a,_,_,_,rfl,rfl,eY.of (sG _ _ ha),ex,_,rfl,_,rfl,.inr ⟨b,_,_,_,rfl,rfl,eY.of (sG _ _ hb),ey,?_⟩⟩⟩
         exact⟨_,_,t,m,rfl,by omega,fD.same sG hxt,fD.same sG hyt,fun H' s'=>⟨_,rfl,aN ⟨_,rfl,sG.trans s'⟩⟩⟩
       · obtain⟨u,rfl,sG⟩:=hw
         exact q _ sG
end
def ctT:Ct→Tr
 | none=>.leaf .non
 | some q=>.tup [.leaf (.str q.1),.leaf (.int 0),.leaf (.int q.2)]
def rsT (sf:Gs):Tr:=.tup [.leaf (.bl (decide (sf.ct=none))),.lst (sf.L.map fun e=>.tup (e.map Tr.leaf)),.lst (sf.D.map fun z=>.leaf (.str z)),ctT sf.ct]
theorem jW {F:Addr→Prop}{H:Hp}{n:Nat}:∀ {l:List V},(∀ v∈l,mU v)→Paired (fD F H n) l (l.map Tr.leaf)
 | [],_=>.nil
 | v::l,h=>.cons (by
     have:=h v List.mem_cons_self
     cases n <;> exact⟨rfl,this⟩) (jW fun u hu=>h u (List.mem_cons_of_mem _ hu))
theorem XS {F:Addr→Prop}{H:Hp}{x:V}{sf:Gs} (h:RsR F H x sf) (hl:sf.L.length≤1000) (hd:sf.D.length≤1000) (hf:∀ e∈sf.L,e.length≤1000∧∀ v∈e,mU v):fD F H 3 x (rsT sf):=by
 obtain⟨p,lg,db,ts,cv,rfl,f1,f2,_,hp,V5,hts,hdb,hc⟩:=h
 refine⟨p,_,rfl,hp,(by show 4≤1000;decide),.cons ⟨rfl,trivial⟩ (.cons ⟨lg,ts,rfl,V5,by rw [zX hts];exact hl,?_,f1⟩ (.cons ⟨db,_,rfl,hdb,by rw [List.length_map];exact hd,?_,f2⟩ (.cons ?_ .nil)))⟩
 · have:∀ {ts:List V}{L:List (List V)},Paired (mQ H) ts L→(∀ e∈L,e.length≤1000∧∀ v∈e,mU v)→Paired (fD F H 1) ts (L.map fun e=>.tup (e.map Tr.leaf)):=by
     intro ts L h
     induction h with
     | nil=>intro _;exact .nil
     | @cons a e _ _ r _ ih =>
       intro hf
       obtain⟨ta,rfl,ht⟩:=r
       have he:=hf e List.mem_cons_self
       exact .cons ⟨ta,e,rfl,ht,he.1,jW he.2⟩ (ih fun e' h'=>hf e' (List.mem_cons_of_mem _ h'))
   exact this hts hf
 · have:∀ D:List Str,Paired (fD F H 1) (D.map V.str) (D.map fun z=>.leaf (.str z)):=fun D=>by
     induction D with
     | nil=>exact .nil
     | cons z D ih=>exact .cons ⟨rfl,trivial⟩ ih
   exact this _
 · cases hct:sf.ct with
   | none=>rw [hct] at hc;exact⟨hc,trivial⟩
   | some q =>
     rw [hct] at hc
     obtain⟨a,rfl,ha⟩:=(show mQ H cv _ from hc)
     exact⟨a,_,rfl,ha,(by show 3≤1000;decide),.cons ⟨rfl,trivial⟩ (.cons ⟨rfl,trivial⟩ (.cons ⟨rfl,trivial⟩ .nil))⟩
def Q8 (h:Str):Prop:=h=‹"<"›∨h=‹"="›∨h=‹">"›
theorem deI {i j:Int}:decide (V.int i=V.int j)=decide (i=j):=by
 by_cases e:i=j
 · rw [decide_eq_true e,decide_eq_true (by rw [e])]
 · rw [decide_eq_false e,decide_eq_false (fun z=>e (V.int.inj z))]
theorem aey (x m:Int):o4 (some x) ‹"<"› m=decide (x<m):=by
 unfold o4
 exact if_pos rfl
theorem aez (x m:Int):o4 (some x) ‹">"› m=decide (m<x):=by
 unfold o4
 dsimp only
 rw [if_neg (show ¬ (Str.ofString ">" = ‹"<"›) by symm)]
 exact if_pos rfl
theorem aeA (x m:Int):o4 (some x) ‹"="› m=decide (x=m):=by
 unfold o4
 dsimp only
 rw [if_neg (show ¬ (Str.ofString "=" = ‹"<"›) by symm)]
 exact if_neg (show ¬ (Str.ofString "=" = ‹">"›) by symm)
theorem Vh {lo hi m:Int} (h:lo≤hi):mK (lo,hi) ‹"<"› m=if hi<m then some true else if m≤lo then some false else none:=by
 unfold mK
 dsimp only
 rw [aey,aey]
 by_cases h1:hi<m
 · rw [if_pos h1,if_pos (by simp [h1];omega)]
 · rw [if_neg h1,if_neg (by simp [h1])]
   by_cases h2:m≤lo
   · rw [if_pos h2,if_neg (by simp [h1];omega)]
   · rw [if_neg h2,if_pos (by simp;omega)]
theorem Vi {lo hi m:Int} (h:lo≤hi):mK (lo,hi) ‹">"› m=if m<lo then some true else if hi≤m then some false else none:=by
 unfold mK
 dsimp only
 rw [aez,aez]
 by_cases h1:m<lo
 · rw [if_pos h1,if_pos (by simp [h1];omega)]
 · rw [if_neg h1,if_neg (by simp [h1])]
   by_cases h2:hi≤m
   · rw [if_pos h2,if_neg (by simp [h1];omega)]
   · rw [if_neg h2,if_pos (by simp;omega)]
theorem Vj {lo hi m:Int} (h:lo≤hi):mK (lo,hi) ‹"="› m=if lo=m∧hi=m then some true else if m<lo∨hi<m then some false else none:=by
 unfold mK
 dsimp only
 rw [aeA,aeA]
 by_cases h1:lo=m∧hi=m
 · rw [if_pos h1,if_pos (by simp [h1])]
 · rw [if_neg h1,if_neg (by simpa using h1)]
   by_cases h2:m<lo∨hi<m
   · rw [if_pos h2,if_neg (by simp;omega)]
   · rw [if_neg h2,if_pos (by simp;omega)]
def XX:Sp:=fun vs H Q _=>∃ h lo hi m,vs=[.str h,.int lo,.int hi,.int m]∧Q8 h∧lo≤hi∧Q (tv (mK (lo,hi) h m)) H
def aaZ:Sp:=fun vs H Q _=>∃ (t:At) (lo:Int),vs=[.str t.h,.int lo,.int t.m]∧Q8 t.h∧Q (.int (kJ t lo)) H
section
variable {P:Program}{w:World}{K:W.Frag}{mg:Str→Option Value}{base:Heap}{A:cT}
theorem wK (T:Txt K mg A):aV P w K mg base bR 1 A.m8 A.qL ["_law_how","_law_low","_law_high","_law_number"] XX:=by
 refine T.Kr.ok IW (fun vs H Q E h=>?_) (fun cdv A0 outer s H vs Q E hr h=>?_)
 · obtain⟨h,lo,hi,m,rfl,_⟩:=h
   rfl
 obtain⟨h,lo,hi,m,rfl,hw,hle,q⟩:=h
 refine⟨_,(zC (yB (PW.pt (vh (PW.pt (xK (zL yS (pv 0) zS (zO _)) (xC (zL m5 (pv 2) (pv 3) (zO _))))) (o7 (PW.pt (xK (zL yS (pv 0) zS (zO _)) (xC (zL O9 (pv 1) (pv 3) (zO _)))))))) (zE (zK xR)) zP)
     (zC (yB (PW.pt (xK (zL yS (pv 0) zS (zO _)) (xK (zL yS (pv 1) (pv 3) (zO _)) (xC (zL yS (pv 2) (pv 3) (zO _)))))) (zE (zK xR)) zP)
     (zC (yB (PW.pt (vh (PW.pt (xK (zL yS (pv 0) zS (zO _)) (xC (zL adu (pv 1) (pv 3) (zO _))))) (o7 (PW.pt (xK (zL yS (pv 0) zS (zO _)) (xC (zL adt (pv 2) (pv 3) (zO _)))))))) (zE (zK xR)) zP)
     (zC (yB (PW.pt (xK (zL yS (pv 0) zS (zO _)) (xC (PW.pt (vh (zL O9 (pv 1) (pv 3) (zO _)) (o7 (zL m5 (pv 2) (pv 3) (zO _)))))))) (zE (zK xR)) zP)
     (zE (zK yM)))))),?_⟩
 have nLE:‹"<"› ≠ ‹"="›:=by symm
 have nLG:‹"<"› ≠ ‹">"›:=by symm
 have nEL:‹"="› ≠ ‹"<"›:=by symm
 have nEG:‹"="› ≠ ‹">"›:=by symm
 have nGL:‹">"› ≠ ‹"<"›:=by symm
 have nGE:‹">"› ≠ ‹"="›:=by symm
 rcases hw with rfl | rfl | rfl
 · rw [Vh hle] at q
   refine⟨_,rfl,rfl,_,rfl,Jd rfl ⟨_,rfl,_,rfl,_,_,rfl,rfl,_,rfl,?_⟩⟩
   refine lq (fun d=>?_) (fun d=>?_)
   · rw [if_pos (of_decide_eq_true d)] at q
     exact bT q
   rw [if_neg (fun z=>d (decide_eq_true z))] at q
   refine⟨_,rfl,rfl,_,rfl,qj nLG (aN ?_)⟩
   refine⟨_,rfl,rfl,_,rfl,qj nLE (aN ?_)⟩
   refine⟨_,rfl,rfl,_,rfl,Jd rfl ⟨_,rfl,_,rfl,_,_,rfl,rfl,_,rfl,?_⟩⟩
   refine lq (fun d=>?_) (fun d=>?_)
   · rw [if_pos (of_decide_eq_true d)] at q
     exact bT q
   rw [if_neg (fun z=>d (decide_eq_true z))] at q
   refine⟨_,rfl,rfl,_,rfl,qj nLG (aN ?_)⟩
   exact⟨_,rfl,rfl,_,rfl,qj nLE (aN q)⟩
 · rw [Vj hle] at q
   refine⟨_,rfl,rfl,_,rfl,qj nEL (aN ⟨_,rfl,rfl,_,rfl,qj nEG (aN ?_)⟩)⟩
   have last:(¬ (lo=m∧hi=m))→Wh
       (ZC (tOr (Qm (qb (Mq rEq (mX 0) (tC (V.str ‹"<"›)))) (qb (Mq (O6 fun i j=>V.bl (decide (j≤i))) (mX 1) (mX 3)))) (Qm (qb (Mq rEq (mX 0) (tC (V.str ‹">"›)))) (qb (Mq (O6 fun i j=>V.bl (decide (i≤j))) (mX 2) (mX 3))))) (Wi (tC (V.bl false))) Ro)
       (Wh (ZC (Qm (qb (Mq rEq (mX 0) (tC (V.str ‹"="›)))) (tOr (qb (Mq (O6 fun i j=>V.bl (decide (j<i))) (mX 1) (mX 3))) (qb (Mq (O6 fun i j=>V.bl (decide (i<j))) (mX 2) (mX 3))))) (Wi (tC (V.bl false))) Ro) (Wi (tC V.non)))
       { nx:=fun _ H'=>Q V.non H',rt:=Q } (L2.start [‹"_law_how"›,‹"_law_low"›,‹"_law_high"›,‹"_law_number"›] [V.str ‹"="›,V.int lo,V.int hi,V.int m]) H:=fun hn=>by
     rw [if_neg hn] at q
     refine⟨_,rfl,rfl,_,rfl,qj nEL (aN ⟨_,rfl,rfl,_,rfl,qj nEG (aN ?_)⟩)⟩
     refine⟨_,rfl,rfl,_,rfl,Jd rfl ⟨_,rfl,_,rfl,_,_,rfl,rfl,_,rfl,?_⟩⟩
     refine lq (fun d=>?_) (fun d=>?_)
     · rw [if_pos (.inl (of_decide_eq_true d))] at q
       exact bT q
     refine⟨_,rfl,_,rfl,_,_,rfl,rfl,_,rfl,lq (fun e=>?_) (fun e=>?_)⟩
     · rw [if_pos (.inr (of_decide_eq_true e))] at q
       exact q
     rw [if_neg (fun z=>z.elim (fun z=>d (decide_eq_true z)) (fun z=>e (decide_eq_true z)))] at q
     exact q
   refine⟨_,rfl,rfl,_,rfl,Jd rfl ⟨_,rfl,_,rfl,rfl,_,rfl,?_⟩⟩
   rw [deI]
   refine lq (fun d=>?_) (fun d=>?_)
   · refine⟨_,rfl,_,rfl,rfl,_,rfl,?_⟩
     rw [deI]
     refine lq (fun e=>?_) (fun e=>last fun z=>e (decide_eq_true z.2))
     rw [if_pos ⟨of_decide_eq_true d,of_decide_eq_true e⟩] at q
     exact q
   · exact aN (last fun z=>d (decide_eq_true z.1))
 · rw [Vi hle] at q
   refine⟨_,rfl,rfl,_,rfl,qj nGL (aN ?_)⟩
   refine⟨_,rfl,rfl,_,rfl,Jd rfl ⟨_,rfl,_,rfl,_,_,rfl,rfl,_,rfl,?_⟩⟩
   refine lq (fun d=>?_) (fun d=>?_)
   · rw [if_pos (of_decide_eq_true d)] at q
     exact q
   rw [if_neg (fun z=>d (decide_eq_true z))] at q
   refine⟨_,rfl,rfl,_,rfl,qj nGE (aN ?_)⟩
   refine⟨_,rfl,rfl,_,rfl,qj nGL (aN ?_)⟩
   refine⟨_,rfl,rfl,_,rfl,Jd rfl ⟨_,rfl,_,rfl,_,_,rfl,rfl,_,rfl,?_⟩⟩
   refine lq (fun d=>?_) (fun d=>?_)
   · rw [if_pos (of_decide_eq_true d)] at q
     exact q
   rw [if_neg (fun z=>d (decide_eq_true z))] at q
   exact⟨_,rfl,rfl,_,rfl,qj nGE (aN q)⟩
theorem Ex (T:Txt K mg A):aV P w K mg base bR 1 A.sE A.xg ["_law_how","_law_low","_law_number"] aaZ:=by
 refine T.QV.ok Oe (fun vs H Q E h=>?_) (fun cdv A0 outer s H vs Q E hr h=>?_)
 · obtain⟨t,lo,rfl,_⟩:=h
   rfl
 obtain⟨t,lo,rfl,hw,q⟩:=h
 refine⟨_,(zC (yB (PW.pt (vh (zL yS (pv 0) zS (zO _)) (o7 (PW.pt (xK (zL yS (pv 0) zS (zO _)) (xC (zL m5 (pv 1) (pv 2) (zO _)))))))) (zE (zK (zU o9 (pv 2) zF))) zP)
     (zE (zK (pv 2)))),?_⟩
 unfold kJ at q
 generalize t.h=h at hw q ⊢
 generalize t.m=m at q ⊢
 have nEL:‹"="› ≠ ‹"<"›:=by symm
 have nEG:‹"="› ≠ ‹">"›:=by symm
 have nGL:‹">"› ≠ ‹"<"›:=by symm
 have nGE:‹">"› ≠ ‹"="›:=by symm
 rcases hw with rfl | rfl | rfl
 · rw [if_pos rfl] at q
   exact⟨_,rfl,rfl,_,rfl,Jd rfl ⟨_,rfl,_,_,rfl,rfl,q⟩⟩
 · rw [if_neg nEL,if_neg nEG] at q
   unfold Ou at q
   refine⟨_,rfl,rfl,_,rfl,qj nEL ⟨_,rfl,rfl,_,rfl,Jd rfl ⟨_,rfl,_,rfl,_,_,rfl,rfl,_,rfl,lq (fun d=>?_) (fun d=>?_)⟩⟩⟩
   · rw [if_pos (of_decide_eq_true d)] at q
     exact⟨_,rfl,_,_,rfl,rfl,q⟩
   · rw [if_neg (fun z=>d (decide_eq_true z))] at q
     exact⟨_,rfl,q⟩
 · rw [if_neg nGL,if_pos rfl] at q
   exact⟨_,rfl,rfl,_,rfl,qj nGL ⟨_,rfl,rfl,_,rfl,qj nGE (aN ⟨_,rfl,q⟩)⟩⟩
end
def kw:Kn→Str
 | .yn=>‹"yesno"›
 | .pk _=>‹"pick"›
 | .nm _=>‹"names"›
 | .mo _ _=>‹"money"›
 | .wh _ _=>‹"whole"›
def W6:List Str:=[‹"red"›,‹"yes"›,‹"blue"›,‹"no"›,‹"green"›,‹"grey"›]
def Y9:Kn→Prop
 | .yn=>True
 | .pk ws=>∃ n:Nat,2≤n∧n≤6∧ws=W6.take n
 | .nm hi=>1≤hi
 | .mo lo hi=>lo≤hi
 | .wh lo hi=>lo≤hi
theorem u6 {n:Nat} (h:n≤6):(W6.take n).length=n:=by rw [List.length_take];show min n 6=n;omega
theorem Y9.le {x:Kn} (h:Y9 x):x.lo≤x.hi:=by
 cases x with
 | yn=>decide
 | pk ws =>
   obtain⟨n,h1,h2,rfl⟩:=h
   show (0:Int)≤((W6.take n).length:Nat) - 1
   rw [u6 h2];omega
 | nm hi=>have h:1≤hi:=h;show 0≤hi;omega
 | mo lo hi=>exact h
 | wh lo hi=>exact h
def KtR (H:Hp) (v:V) (x:Kn):Prop:=mQ H v [.str (kw x),.int x.lo,.int x.hi]
theorem Bx {l:List Int}{i:Int} (h0:0≤i) (h1:i<l.length):∃ m,jD (l.map V.int) i=some (.int m)∧m∈l:=by
 obtain⟨v,hv,hv2⟩:=vC (l:=l.map V.int) (i:=i) h0 (by rw [List.length_map];exact h1)
 obtain⟨m,hm,rfl⟩:=rW hv2
 exact⟨m,hv,List.mem_of_getElem? hm⟩
theorem X3 {l:List Str}{i:Int} (h0:0≤i) (h1:i<l.length):∃ m,jD (l.map V.str) i=some (.str m)∧m∈l:=by
 obtain⟨v,hv,hv2⟩:=vC (l:=l.map V.str) (i:=i) h0 (by rw [List.length_map];exact h1)
 obtain⟨m,hm,rfl⟩:=rW hv2
 exact⟨m,hv,List.mem_of_getElem? hm⟩
theorem Jk {p:Addr}{H Hm H':Hp} (s:aB H Hm) (n:H p=none) (F:Fr [p] Hm H'):aB H H':=fun b o e=>F b o (s b o e) (p7 (zH e n))
def kk (c:Int):Int:=c*48271 % (2*(10:Int) ^ (18:Int).toNat) - (10:Int) ^ (18:Int).toNat
def aa0:Sp:=fun vs H Q _=>∃ c:Int,vs=[.int c]∧0≤c∧c<E40∧∀ x v H',Y9 x→aB H H'→KtR H' v x→Q v H'
def aeE (A:cT):Sp:=fun vs H Q _=>∃ v x,vs=[v]∧KtR H v x∧Y9 x∧∀ k H',aB H H'→Q0 A H' k x→Q (.ref k) H'
section
variable {P:Program}{w:World}{K:W.Frag}{mg:Str→Option Value}{base:Heap}{A:cT}
theorem Lz (T:Txt K mg A):aV P w K mg base bR 1 A.pP A.uy ["_law_cell_here"] aa0:=by
 refine T.Nx.ok Af (fun vs H Q E h=>?_) (fun cdv A0 outer s H vs Q E hr h=>?_)
 · obtain⟨c,rfl,_⟩:=h
   rfl
 obtain⟨c,rfl,hc1,hc2,q⟩:=h
 refine⟨_,(zC (zQ (i:=1) Af.nd rfl ‹0› (zW bQ (yI (zA zF (zA (zU o9 (zU yT (zU HH (pv 0) zF) (zU HH zF (zU BP zF zF))) (zU BP zF zF)) zD))) (zU yT (zU jC (pv 0) zF) zF) (fun _ _=>rfl)))
     (zC (yB (zL m5 (zU yT (pv 0) zF) zF (zO _)) (zE (zK (yA (zA zS (zA zF (zA zF zD)))))) zP)
     (zC (yB (zL yS (zU yT (pv 0) zF) zF (zO _)) (zE (zK (yA (zA zS (zA zF (zA (zU yU zF (zU yT (zU jC (pv 0) zF) zF)) zD)))))) zP)
     (zC (yB (zL yS (zU yT (pv 0) zF) zF (zO _)) (zE (zK (yA (zA zS (zA zF (zA (zU yU zF (zU yT (zU jC (pv 0) zF) zF)) zD)))))) zP)
     (zC (yB (zL yS (zU yT (pv 0) zF) zF (zO _)) (zE (zK (yA (zA zS (zA (pv 1) (zA (zU yU (pv 1) (zU yT (zU jC (pv 0) zF) zF)) zD)))))) zP)
     (zE (zK (yA (zA zS (zA (pv 1) (zA (zU yU (pv 1) (zW bQ (yI (zA zF (zA zF (zA zF (zA (zU BP zF zF) zD))))) (zU yT (zU jC (pv 0) zF) zF) (fun _ _=>rfl))) zD))))))))))),?_⟩
 have hc2:c<10000000000000000000000000000000000000000:=hc2
 have p18:(10:Int) ^ (18:Int).toNat=1000000000000000000:=by symm
 have e0:=Int.emod_nonneg (c / 6) (b:=2) (by decide)
 have e1:=Int.emod_lt_of_pos (c / 6) (b:=2) (by decide)
 refine⟨_,rfl,_,_,rfl,rfl,⟨ibc (by omega),ibc (by decide)⟩,_,_,rfl,rfl,⟨by decide,by decide,by symm⟩,_,_,rfl,rfl,⟨ibc (by decide),ibc (by rw [p18];decide)⟩,_,_,rfl,rfl,(by show (0:Int)<2*(10:Int) ^ (18:Int).toNat;rw [p18];decide),_,_,rfl,rfl,⟨by decide,by decide,by symm⟩,_,_,rfl,rfl,(by show 2≤sizeLine;decide),fun p2 hp2=>?_⟩
 have s1:=zG hp2 (.lst [.int 0,.int (kk c)])
 obtain⟨lo,hlo,_⟩:=Bx (l:=[0,kk c]) (i:=c / 6 % 2) e0 e1
 refine⟨_,rfl,_,_,rfl,rfl,⟨by decide,by decide⟩,_,_,rfl,rfl,(by show (0:Int)<2;decide),p2,_,_,_,rfl,rfl,cB.of zB,hlo,?_⟩
 dsimp only [bO,List.set_cons_succ,List.set_cons_zero]
 refine⟨_,rfl,_,_,rfl,rfl,(by show (0:Int)<6;decide),_,_,rfl,rfl,_,rfl,lq (fun d=>?_) (fun d=>?_)⟩
 · refine⟨(by show 3≤sizeLine;decide),fun p hp=>?_⟩
   exact q .yn (.ref p) _ True.intro (s1.trans (zG hp _)) ⟨p,rfl,zB⟩
 refine⟨_,rfl,_,_,rfl,rfl,(by show (0:Int)<6;decide),rfl,_,rfl,lq (fun d=>?_) (fun d=>?_)⟩
 · have f0:=Int.emod_nonneg (c / 6) (b:=5) (by decide)
   have f1:=Int.emod_lt_of_pos (c / 6) (b:=5) (by decide)
   refine⟨_,rfl,_,_,rfl,rfl,⟨by decide,by decide⟩,_,_,rfl,rfl,(by show (0:Int)<5;decide),_,_,rfl,rfl,(by show 3≤sizeLine;decide),fun p hp=>?_⟩
   have el:((W6.take (2+(c / 6 % 5).toNat)).length:Nat)=2+(c / 6 % 5).toNat:=u6 (by omega)
   refine q (.pk (W6.take (2+(c / 6 % 5).toNat))) (.ref p) _ ⟨_,by omega,by omega,rfl⟩ (s1.trans (zG hp _)) ⟨p,rfl,?_⟩
   have e:(Kn.pk (W6.take (2+(c / 6 % 5).toNat))).hi=1+c / 6 % 5:=by
     show (((W6.take (2+(c / 6 % 5).toNat)).length:Nat):Int) - 1=_
     rw [el];omega
   rw [e];exact zB
 refine⟨_,rfl,_,_,rfl,rfl,(by show (0:Int)<6;decide),rfl,_,rfl,lq (fun d=>?_) (fun d=>?_)⟩
 · have f0:=Int.emod_nonneg (c / 6) (b:=6) (by decide)
   refine⟨_,rfl,_,_,rfl,rfl,⟨by decide,by decide⟩,_,_,rfl,rfl,(by show (0:Int)<6;decide),_,_,rfl,rfl,(by show 3≤sizeLine;decide),fun p hp=>?_⟩
   exact q (.nm (1+c / 6 % 6)) (.ref p) _ (by show 1≤1+c / 6 % 6;omega) (s1.trans (zG hp _)) ⟨p,rfl,zB⟩
 refine⟨_,rfl,_,_,rfl,rfl,(by show (0:Int)<6;decide),rfl,_,rfl,lq (fun d=>?_) (fun d=>?_)⟩
 · have f0:=Int.emod_nonneg (c / 12) (b:=5) (by decide)
   refine⟨_,rfl,_,rfl,_,rfl,_,_,rfl,rfl,⟨by decide,by decide⟩,_,_,rfl,rfl,(by show (0:Int)<5;decide),_,_,rfl,rfl,(by show 3≤sizeLine;decide),fun p hp=>?_⟩
   exact q (.mo lo (lo+c / 12 % 5)) (.ref p) _ (by show lo≤lo+c / 12 % 5;omega) (s1.trans (zG hp _)) ⟨p,rfl,zB⟩
 have g0:=Int.emod_nonneg (c / 12) (b:=4) (by decide)
 have g1:=Int.emod_lt_of_pos (c / 12) (b:=4) (by decide)
 obtain⟨wd,hwd,hmem⟩:=Bx (l:=[0,3,10,(10:Int) ^ (18:Int).toNat]) (i:=c / 12 % 4) g0 g1
 have wd0:0≤wd:=by
   rw [p18] at hmem
   simp only [List.mem_cons,List.not_mem_nil,or_false] at hmem
   omega
 refine⟨_,rfl,_,rfl,_,_,rfl,rfl,⟨by decide,by decide,by symm⟩,(by show 4≤sizeLine;decide),fun p4 hp4=>?_⟩
 have s6:=zG hp4 (.lst [.int 0,.int 3,.int 10,.int ((10:Int) ^ (18:Int).toNat)])
 refine⟨_,rfl,_,_,rfl,rfl,⟨by decide,by decide⟩,_,_,rfl,rfl,(by show (0:Int)<4;decide),p4,_,_,_,rfl,rfl,cB.of zB,hwd,_,_,rfl,rfl,(by show 3≤sizeLine;decide),fun p hp=>?_⟩
 exact q (.wh lo (lo+wd)) (.ref p) _ (by show lo≤lo+wd;omega) ((s1.trans s6).trans (zG hp _)) ⟨p,rfl,zB⟩
theorem Gx (T:Txt K mg A):aV P w K mg base bR 5 A.lA A.pQ ["_law_kind_here"] (aeE A):=by
 have cL:=lF (P:=P) (w:=w) (base:=base) T
 have jB:=Ag (P:=P) (w:=w) (base:=base) T
 have Bp:=Jb (P:=P) (w:=w) (base:=base) T
 have yr:=Gq (P:=P) (w:=w) (base:=base) T
 refine T.Ih.ok Gk (fun vs H Q E h=>?_) (fun cdv A0 outer s H vs Q E hr h=>?_)
 · obtain⟨v,x,rfl,_⟩:=h
   rfl
 obtain⟨v,x,rfl,⟨a,rfl,ha⟩,hK,q⟩:=h
 refine⟨_,(zC (yB (zL yS (zW zY (pv 0) zF (fun _ _=>rfl)) zS (zO _)) (zE (zK (JG T.KY jB ‹hr› rfl T.Qc T.oW .nil zN))) zP)
     (zC (yB (zL yS (zW zY (pv 0) zF (fun _ _=>rfl)) zS (zO _)) (zE (zK (yY T.Xl Bp ‹hr› rfl T.aap T.Aq .nil zN (zA (JM Wu (yI (zA zS (zA zS (zA zS (zA zS (zA zS (zA zS zD))))))) Pg (Ph (zU yU (zW zY (pv 0) zF (fun _ _=>rfl)) zF))) zD)))) zP)
     (zC (yB (zL yS (zW zY (pv 0) zF (fun _ _=>rfl)) zS (zO _)) (zE (zK (yY T.Uj yr ‹hr› rfl T.Xd T.xn .nil zN (zA (zW zY (pv 0) zF (fun _ _=>rfl)) zD)))) zP)
     (zC (yB (zL yS (zW zY (pv 0) zF (fun _ _=>rfl)) zS (zO _)) (zE (zK (yY T.Uh cL ‹hr› rfl T.Xc T.fH .nil zN (zA (zW zY (pv 0) zF (fun _ _=>rfl)) (zA (zW zY (pv 0) zF (fun _ _=>rfl)) zD))))) zP)
     (zE (zK (yY T.Ue cL ‹hr› rfl T.Xh T.fH .nil zN (zA (zW zY (pv 0) zF (fun _ _=>rfl)) (zA (zW zY (pv 0) zF (fun _ _=>rfl)) zD))))))))),?_⟩
 have ha':eY K H a _:=eY.of ha
 have i0:jD [V.str (kw x),.int x.lo,.int x.hi] ((0:Nat):Int)=some (.str (kw x)):=zV rfl
 have i1:jD [V.str (kw x),.int x.lo,.int x.hi] ((1:Nat):Int)=some (.int x.lo):=zV rfl
 have i2:jD [V.str (kw x),.int x.lo,.int x.hi] ((2:Nat):Int)=some (.int x.hi):=zV rfl
 cases x with
 | yn =>
   refine⟨_,rfl,a,_,_,_,rfl,rfl,ha',i0,rfl,_,rfl,Jd rfl ?_⟩
   intro k dk nk X4 _
   refine⟨k,dk,rfl,zB,rfl,?_⟩
   rw [yD]
   exact q k _ (yC nk X4 _) ⟨dk,dk,zB,fun ws e=>by cases e⟩
 | pk ws =>
   obtain⟨n,h1,h2,rfl⟩:=hK
   refine⟨_,rfl,a,_,_,_,rfl,rfl,ha',i0,rfl,_,rfl,qj (show ‹"pick"› ≠ ‹"yesno"› by symm) ?_⟩
   refine⟨_,rfl,a,_,_,_,rfl,rfl,ha',i0,rfl,_,rfl,Jd rfl ?_⟩
   refine⟨(by show 6≤sizeLine;decide),fun wl hwl=>?_⟩
   have s1:=zG hwl (.lst (W6.map V.str))
   have ehi:(Kn.pk (W6.take n)).hi+1=(n:Int):=by
     show (((W6.take n).length:Nat):Int) - 1+1=n
     rw [u6 h2];omega
   have ec:BZ (W6.map V.str) none (some ((Kn.pk (W6.take n)).hi+1))=(W6.take n).map V.str:=by
     rw [ehi]
     unfold BZ
     rw [HT.RK,HT.Wq,List.drop_zero,Nat.sub_zero,List.map_take,show min n (W6.map V.str).length=n from by rw [List.length_map];show min n 6=n;omega]
   refine⟨_,rfl,a,_,_,_,rfl,rfl,s1.vI ha',i2,_,_,rfl,rfl,_,rfl,wl,_,rfl,cB.of zB,fun sl hsl=>?_⟩
   have s2:=zG hsl (.lst (BZ (W6.map V.str) none (some ((Kn.pk (W6.take n)).hi+1))))
   have hS:(upd (upd H wl (.lst (W6.map V.str))) sl (.lst (BZ (W6.map V.str) none (some ((Kn.pk (W6.take n)).hi+1))))) sl=some (.lst ((W6.take n).map V.str)):=by rw [ec];exact zB
   intro k dk nk X4 _
   have y1:=yC nk X4 (.ins A.cN dk [])
   refine⟨k,dk,sl,W6.take n,rfl,zB,y1 _ _ hS,by rw [u6 h2];omega,fun q' H' F hk hq=>⟨rfl,?_⟩⟩
   refine q k H' ((s1.trans s2).trans (Jk y1 nk F)) ⟨dk,q',hk,fun ws e=>?_⟩
   cases e
   refine⟨fun z=>?_,hq⟩
   have:=congrArg List.length z
   rw [u6 h2] at this
   exact absurd this (by show ¬ n=0;omega)
 | nm hi =>
   refine⟨_,rfl,a,_,_,_,rfl,rfl,ha',i0,rfl,_,rfl,qj (show ‹"names"› ≠ ‹"yesno"› by symm) ?_⟩
   refine⟨_,rfl,a,_,_,_,rfl,rfl,ha',i0,rfl,_,rfl,qj (show ‹"names"› ≠ ‹"pick"› by symm) ?_⟩
   refine⟨_,rfl,a,_,_,_,rfl,rfl,ha',i0,rfl,_,rfl,Jd rfl ?_⟩
   refine⟨_,rfl,a,_,_,_,rfl,rfl,ha',i2,?_⟩
   intro k dk nk X4 _
   refine⟨k,dk,_,rfl,zB,rfl,?_⟩
   rw [yD]
   exact q k _ (yC nk X4 _) ⟨dk,dk,zB,fun ws e=>by cases e⟩
 | mo lo hi =>
   refine⟨_,rfl,a,_,_,_,rfl,rfl,ha',i0,rfl,_,rfl,qj (show ‹"money"› ≠ ‹"yesno"› by symm) ?_⟩
   refine⟨_,rfl,a,_,_,_,rfl,rfl,ha',i0,rfl,_,rfl,qj (show ‹"money"› ≠ ‹"pick"› by symm) ?_⟩
   refine⟨_,rfl,a,_,_,_,rfl,rfl,ha',i0,rfl,_,rfl,qj (show ‹"money"› ≠ ‹"names"› by symm) ?_⟩
   refine⟨_,rfl,a,_,_,_,rfl,rfl,ha',i0,rfl,_,rfl,Jd rfl ?_⟩
   refine⟨_,rfl,a,_,_,_,rfl,rfl,ha',i1,_,rfl,a,_,_,_,rfl,rfl,ha',i2,?_⟩
   intro k dk nk X4 _
   refine⟨k,_,dk,_,_,rfl,zB,T.K4,T.vZ,T.tV,rfl,?_⟩
   rw [yD]
   exact q k _ (yC nk X4 _) ⟨dk,dk,zB,fun ws e=>by cases e⟩
 | wh lo hi =>
   refine⟨_,rfl,a,_,_,_,rfl,rfl,ha',i0,rfl,_,rfl,qj (show ‹"whole"› ≠ ‹"yesno"› by symm) ?_⟩
   refine⟨_,rfl,a,_,_,_,rfl,rfl,ha',i0,rfl,_,rfl,qj (show ‹"whole"› ≠ ‹"pick"› by symm) ?_⟩
   refine⟨_,rfl,a,_,_,_,rfl,rfl,ha',i0,rfl,_,rfl,qj (show ‹"whole"› ≠ ‹"names"› by symm) ?_⟩
   refine⟨_,rfl,a,_,_,_,rfl,rfl,ha',i0,rfl,_,rfl,qj (show ‹"whole"› ≠ ‹"money"› by symm) ?_⟩
   refine⟨_,rfl,a,_,_,_,rfl,rfl,ha',i1,_,rfl,a,_,_,_,rfl,rfl,ha',i2,?_⟩
   intro k dk nk X4 _
   refine⟨k,_,dk,_,_,rfl,zB,T.KZ,T.vY,T.tU,rfl,?_⟩
   rw [yD]
   exact q k _ (yC nk X4 _) ⟨dk,dk,zB,fun ws e=>by cases e⟩
end
def Vk (x:Kn) (h:Str) (m:Int):Prop:=Q8 h∧match x with
 | .yn=>h=‹"="›∧0≤m∧m<2
 | .pk ws=>h=‹"="›∧0≤m∧m<ws.length
 | _=>True
def Q9 (x:Kn) (h:Str) (m:Int):At:=match x with
 | .yn=>.is (wdB (decide (m=1))) m
 | .pk ws=>.is ((ws[m.toNat]?).getD ‹""›) m
 | _=>.cmp h m
def aeG (x:Kn) (h:Str) (m:Int):At:=match x with
 | .yn=>.is (wdB (decide (m=1))) m
 | _=>.cmp h m
theorem aeH {m:Int} (h0:0≤m) (h1:m<2):m=rkB (decide (m=1)):=by
 by_cases e:m=1
 · rw [decide_eq_true e];exact e
 · rw [decide_eq_false e];show m=0;omega
theorem aqq {x:Kn}{h:Str}{m:Int} (k:Vk x h m):(Q9 x h m).h=h∧(Q9 x h m).m=m:=by
 cases x with
 | yn=>exact⟨k.2.1.symm,rfl⟩
 | pk ws=>exact⟨k.2.1.symm,rfl⟩
 | _=>exact⟨rfl,rfl⟩
theorem aeI {x:Kn}{h:Str}{m:Int} (o:Y9 x) (k:Vk x h m):UG x (Q9 x h m):=by
 cases x with
 | yn=>exact⟨decide (m=1),rfl,aeH k.2.2.1 k.2.2.2⟩
 | pk ws =>
   obtain⟨_,_,k1,k2⟩:=k
   obtain⟨n,_,_,rfl⟩:=o
   refine⟨(show W6.Nodup by symm).sublist (List.take_sublist _ _),m.toNat,?_,by omega⟩
   rw [List.getElem?_eq_getElem (by omega)]
   rfl
 | _=>exact True.intro
def X5 (K:W.Frag):Sp:=fun vs H Q _=>∃ (a:Addr) (ns:List Int) (v:V) (x:Kn),vs=[.ref a,v]∧cB K H a (ns.map V.int)∧KtR H v x∧Y9 x∧∀ t lo hi H',aB H H'→lo≤hi→H' t=some (.tup [.int lo,.int hi])→Q (.ref t) H'
def aa1 (K:W.Frag):Sp:=fun vs H Q _=>∃ (a:Addr) (ns:List Int) (v:V) (x:Kn) (lo hi:Int),vs=[.ref a,v,.int lo,.int hi]∧cB K H a (ns.map V.int)∧KtR H v x∧Y9 x∧lo≤hi∧∀ t h m H',aB H H'→Vk x h m→H' t=some (.tup [.str h,.int m])→Q (.ref t) H'
def Vl (A:cT) (K:W.Frag):Sp:=fun vs H Q _=>∃ (a:Addr) (ns:List Int) (N:Nm) (v:V) (x:Kn) (ta:Addr) (h:Str) (m:Int),vs=[.ref a,.str (N 0),v,.ref ta]∧cB K H a (ns.map V.int)∧KtR H v x∧Y9 x∧H ta=some (.tup [.str h,.int m])∧Vk x h m ∧
 ∀ y H',aB H H'→Og A N H' false y (Q9 x h m,decide (eV ns 5 % 2=1))→Q y H'
def isP:Kn→Bool
 | .yn=>true
 | .pk _=>true
 | _=>false
theorem Vm (z:Str) (x:Kn) (h:kw x=z):inV (.str (kw x)) [V.str ‹"yesno"›,V.str ‹"pick"›]=decide (z∈[‹"yesno"›,‹"pick"›]):=by
 rw [show [V.str ‹"yesno"›,V.str ‹"pick"›]=[‹"yesno"›,‹"pick"›].map V.str from rfl,Lf]
 subst h;rfl
theorem aqr (x:Kn):inV (.str (kw x)) [V.str ‹"yesno"›,V.str ‹"pick"›]=isP x:=by
 cases x with
 | yn=>exact (Vm ‹"yesno"› _ rfl).trans (show decide (Str.ofString "yesno" ∈ [‹"yesno"›,‹"pick"›])=true by symm)
 | pk ws=>exact (Vm ‹"pick"› _ rfl).trans (show decide (Str.ofString "pick" ∈ [‹"yesno"›,‹"pick"›])=true by symm)
 | nm _=>exact (Vm ‹"names"› _ rfl).trans (show decide (Str.ofString "names" ∈ [‹"yesno"›,‹"pick"›])=false by symm)
 | mo _ _=>exact (Vm ‹"money"› _ rfl).trans (show decide (Str.ofString "money" ∈ [‹"yesno"›,‹"pick"›])=false by symm)
 | wh _ _=>exact (Vm ‹"whole"› _ rfl).trans (show decide (Str.ofString "whole" ∈ [‹"yesno"›,‹"pick"›])=false by symm)
section
variable {P:Program}{w:World}{K:W.Frag}{mg:Str→Option Value}{base:Heap}{A:cT}
theorem Jl (T:Txt K mg A):aV P w K mg base bR 2 A.nq A.qN ["_law_script","_law_kind_here"] (X5 K):=by
 have du:=jU (P:=P) (w:=w) (base:=base) T
 refine T.Ku.ok pZ (fun vs H Q E h=>?_) (fun cdv A0 outer s H vs Q E hr h=>?_)
 · obtain⟨a,ns,v,x,rfl,_⟩:=h
   rfl
 obtain⟨a,ns,v,x,rfl,hA,⟨ta,rfl,ht⟩,hK,q⟩:=h
 refine⟨_,(zC (zQ (i:=2) pZ.nd rfl ‹0› (zU yT (zT du ‹hr› rfl T.gh T.gf T.gb .nil zN (zA (pv 0) (zA zF zD))) (zU yU (zU o9 (zW zY (pv 1) zF (fun _ _=>rfl)) (zW zY (pv 1) zF (fun _ _=>rfl))) zF)))
     (zC (zQ (i:=3) pZ.nd rfl ‹0› (zW bQ (yI (zA zF (zA zF (zA zF (zA (zU BP zF zF) zD))))) (zU yT (zT du ‹hr› rfl T.gh T.gf T.gb .nil zN (zA (pv 0) (zA zF zD))) zF) (fun _ _=>rfl)))
     (zE (zK (yA (zA (zU yU (zW zY (pv 1) zF (fun _ _=>rfl)) (pv 2)) (zA (zR (Qu rfl) (by rfl) T.ad0 PyProof.Rows.boot_min (zA (zW zY (pv 1) zF (fun _ _=>rfl)) (zA (zU yU (zU yU (zW zY (pv 1) zF (fun _ _=>rfl)) (pv 2)) (pv 3)) zD))) zD))))))),?_⟩
 have hle:=hK.le
 generalize x.lo=lo at hle ht
 generalize x.hi=hi at hle ht
 have ht':eY K H ta _:=eY.of ht
 have i1:jD [V.str (kw x),.int lo,.int hi] ((1:Nat):Int)=some (.int lo):=zV rfl
 have i2:jD [V.str (kw x),.int lo,.int hi] ((2:Nat):Int)=some (.int hi):=zV rfl
 have f0:=Int.emod_nonneg (eV ns 2) (b:=hi - lo+1) (by omega)
 have f1:=Int.emod_lt_of_pos (eV ns 2) (b:=hi - lo+1) (by omega)
 refine⟨_,rfl,a,ns,2,rfl,hA,_,rfl,ta,_,_,_,rfl,rfl,ht',i2,_,rfl,ta,_,_,_,rfl,rfl,ht',i1,_,_,rfl,rfl,_,_,rfl,rfl,_,_,rfl,rfl,(by show (0:Int)<hi - lo+1;omega),?_⟩
 dsimp only [bO,List.set_cons_succ,List.set_cons_zero]
 have p18:(10:Int) ^ (18:Int).toNat=1000000000000000000:=by symm
 have g0:=Int.emod_nonneg (eV ns 3) (b:=4) (by decide)
 have g1:=Int.emod_lt_of_pos (eV ns 3) (b:=4) (by decide)
 obtain⟨wd,hwd,hmem⟩:=Bx (l:=[0,1,2,(10:Int) ^ (18:Int).toNat]) (i:=eV ns 3 % 4) g0 g1
 have wd0:0≤wd:=by
   rw [p18] at hmem
   simp only [List.mem_cons,List.not_mem_nil,or_false] at hmem
   omega
 refine⟨_,_,rfl,rfl,⟨by decide,by decide,by symm⟩,(by show 4≤sizeLine;decide),fun p4 hp4=>?_⟩
 have s6:=zG hp4 (.lst [.int 0,.int 1,.int 2,.int ((10:Int) ^ (18:Int).toNat)])
 refine⟨_,rfl,a,ns,3,rfl,s6.seq hA,_,_,rfl,rfl,(by show (0:Int)<4;decide),p4,_,_,_,rfl,rfl,cB.of zB,hwd,?_⟩
 dsimp only [bO,List.set_cons_succ,List.set_cons_zero]
 refine⟨_,rfl,ta,_,_,_,rfl,rfl,s6.vI ht',i1,_,rfl,_,_,rfl,rfl,_,rfl,ta,_,_,_,rfl,rfl,s6.vI ht',i2,_,rfl,ta,_,_,_,rfl,rfl,s6.vI ht',i1,_,rfl,_,_,rfl,rfl,_,rfl,_,_,rfl,rfl,_,_,rfl,(by show 2≤sizeLine;decide),fun t ht=>?_⟩
 refine q t _ _ _ (s6.trans (zG ht _)) ?_ zB
 generalize eV ns 2 % (hi - lo+1)=f at f0 f1 ⊢
 show lo+f≤(if lo+f+wd<hi then lo+f+wd else hi)
 split <;> omega
theorem LC (T:Txt K mg A):aV P w K mg base bR 2 A.pR A.uz ["_law_script","_law_kind_here","_law_low","_law_high"] (aa1 K):=by
 have du:=jU (P:=P) (w:=w) (base:=base) T
 refine T.NK.ok rF (fun vs H Q E h=>?_) (fun cdv A0 outer s H vs Q E hr h=>?_)
 · obtain⟨a,ns,v,x,lo,hi,rfl,_⟩:=h
   rfl
 obtain⟨a,ns,v,x,lo,hi,rfl,hA,⟨ta,rfl,ht⟩,hK,hle,q⟩:=h
 refine⟨_,(zC (zQ (i:=4) rF.nd rfl ‹0› (zT du ‹hr› rfl T.gh T.gf T.gb .nil zN (zA (pv 0) (zA zF zD))))
     (zC (yB (zL GK (zW zY (pv 1) zF (fun _ _=>rfl)) (yI (zA zS (zA zS zD))) (by rfl)) (zE (zK (yA (zA zS (zA (zU yT (pv 4) (zU yU (zW zY (pv 1) zF (fun _ _=>rfl)) zF)) zD))))) zP)
     (zC (zQ (i:=5) rF.nd rfl ‹0› (yI (zA (zU o9 (pv 2) zF) (zA (pv 2) (zA (zU yU (pv 2) zF) (zA (zU o9 (pv 3) zF) (zA (pv 3) (zA (zU yU (pv 3) zF) (zA (zU yU (pv 2) (zU yT (zU jC (pv 4) zF) (zU yU (zU o9 (pv 3) (pv 2)) zF))) (zA (zU jC (zU yU (pv 2) (pv 3)) zF) zD))))))))))
     (zE (zK (yA (zA (zW bQ (yI (zA zS (zA zS (zA zS zD)))) (zU yT (pv 4) zF) (fun _ _=>rfl)) (zA (zW bQ (pv 5) (zU yT (zU jC (pv 4) zF) zF) (fun _ _=>rfl)) zD)))))))),?_⟩
 have ht':eY K H ta _:=eY.of ht
 have i0:jD [V.str (kw x),.int x.lo,.int x.hi] ((0:Nat):Int)=some (.str (kw x)):=zV rfl
 have i2:jD [V.str (kw x),.int x.lo,.int x.hi] ((2:Nat):Int)=some (.int x.hi):=zV rfl
 refine⟨_,rfl,a,ns,4,rfl,hA,?_⟩
 generalize eV ns 4=c
 dsimp only [bO,List.set_cons_succ,List.set_cons_zero]
 refine⟨_,rfl,ta,_,_,_,rfl,rfl,ht',i0,(by show 2≤sizeLine;decide),fun wl hwl=>?_⟩
 have s1:=zG hwl (.lst [.str ‹"yesno"›,.str ‹"pick"›])
 refine⟨wl,_,rfl,.inl (cB.of zB),rfl,rfl,_,rfl,?_⟩
 show if inV (.str (kw x)) [V.str ‹"yesno"›,V.str ‹"pick"›]=true then _ else _
 rw [aqr]
 cases hp:isP x with
 | true =>
   have hx:0≤x.hi∧(∀ m,0≤m→m<x.hi+1→Vk x ‹"="› m):=by
     cases x with
     | yn=>exact⟨by decide,fun m h0 h1=>⟨.inr (.inl rfl),rfl,h0,by have h1:m<1+1:=h1;omega⟩⟩
     | pk ws =>
       obtain⟨n,h1,h2,rfl⟩:=hK
       have e:=u6 h2
       refine⟨?_,fun m h0 h1=>⟨.inr (.inl rfl),rfl,h0,?_⟩⟩
       · show (0:Int)≤(((W6.take n).length:Nat):Int) - 1
         rw [e];omega
       · have h1:m<(((W6.take n).length:Nat):Int) - 1+1:=h1
         omega
     | nm _=>cases hp
     | mo _ _=>cases hp
     | wh _ _=>cases hp
   have f0:=Int.emod_nonneg c (b:=x.hi+1) (by omega)
   have f1:=Int.emod_lt_of_pos c (b:=x.hi+1) (by omega)
   refine bT ⟨_,rfl,_,rfl,ta,_,_,_,rfl,rfl,s1.vI ht',i2,_,_,rfl,rfl,_,_,rfl,rfl,(by show (0:Int)<x.hi+1;omega),(by show 2≤sizeLine;decide),fun t ht=>?_⟩
   exact q t _ _ _ (s1.trans (zG ht _)) (hx.2 _ f0 f1) zB
 | false =>
   refine aN ?_
   have b0:=Int.emod_nonneg (c / 3) (b:=8) (by decide)
   have b1:=Int.emod_lt_of_pos (c / 3) (b:=8) (by decide)
   have a0:=Int.emod_nonneg c (b:=3) (by decide)
   have a1:=Int.emod_lt_of_pos c (b:=3) (by decide)
   refine⟨_,rfl,_,_,rfl,rfl,_,rfl,_,rfl,_,_,rfl,rfl,_,rfl,_,_,rfl,rfl,_,rfl,_,rfl,_,_,rfl,rfl,_,rfl,_,rfl,_,_,rfl,rfl,⟨by decide,by decide⟩,_,rfl,_,rfl,_,_,rfl,rfl,_,_,rfl,rfl,_,_,rfl,rfl,(by show (0:Int)<hi - lo+1;omega),_,_,rfl,rfl,_,rfl,_,rfl,_,_,rfl,rfl,_,_,rfl,rfl,⟨by decide,by decide⟩,(by show 8≤sizeLine;decide),fun nl hnl=>?_⟩
   obtain⟨m,hm,_⟩:=Bx (l:=[lo - 1,lo,lo+1,hi - 1,hi,hi+1,lo+c / 24 % (hi - lo+1),(lo+hi) / 2]) (i:=c / 3 % 8) b0 b1
   obtain⟨h,hh,hmem⟩:=X3 (l:=[‹"<"›,‹"="›,‹">"›]) (i:=c % 3) a0 a1
   have s2:=zG hnl (.lst ([lo - 1,lo,lo+1,hi - 1,hi,hi+1,lo+c / 24 % (hi - lo+1),(lo+hi) / 2].map V.int))
   dsimp only [bO,List.set_cons_succ,List.set_cons_zero]
   refine⟨(by show 3≤sizeLine;decide),fun hl hhl=>?_⟩
   have s3:=zG hhl (.lst ([‹"<"›,‹"="›,‹">"›].map V.str))
   refine⟨_,rfl,_,_,rfl,rfl,(by show (0:Int)<3;decide),hl,_,_,_,rfl,rfl,cB.of zB,hh,_,rfl,_,rfl,_,_,rfl,rfl,⟨by decide,by decide⟩,_,_,rfl,rfl,(by show (0:Int)<8;decide),nl,_,_,_,rfl,rfl,cB.of (s3 _ _ zB),hm,(by show 2≤sizeLine;decide),fun t ht=>?_⟩
   refine q t h m _ (((s1.trans s2).trans s3).trans (zG ht _)) ⟨?_,?_⟩ zB
   · simp only [List.mem_cons,List.not_mem_nil,or_false] at hmem
     rcases hmem with rfl | rfl | rfl
     · exact .inl rfl
     · exact .inr (.inl rfl)
     · exact .inr (.inr rfl)
   · cases x with
     | yn=>cases hp
     | pk _=>cases hp
     | _=>exact True.intro
theorem Gy (T:Txt K mg A):aV P w K mg base bR 3 A.lB A.pU ["_law_script","_law_name_here","_law_kind_here","_law_atom_here"] (Vl A K):=by
 have du:=jU (P:=P) (w:=w) (base:=base) T
 have iC:=Er (P:=P) (w:=w) (base:=base) T
 have jL:=Ep (P:=P) (w:=w) (base:=base) T
 have mO:=Es (P:=P) (w:=w) (base:=base) T
 refine T.Il.ok jK (fun vs H Q E h=>?_) (fun cdv A0 outer s H vs Q E hr h=>?_)
 · obtain⟨a,ns,N,v,x,ta,h,m,rfl,_⟩:=h
   rfl
 obtain⟨a,ns,N,v,x,ta,h,m,rfl,hA,⟨kt,rfl,hk⟩,hK,ht,hm,q⟩:=h
 refine⟨_,(zC (zQ (i:=4) jK.nd rfl ‹0› (yY T.Eh iC ‹hr› rfl T.Hi T.mF .nil zN (zA (pv 1) (zA (zW zY (pv 3) zF (fun _ _=>rfl)) (zA (zW zY (pv 3) zF (fun _ _=>rfl)) zD)))))
     (zC (yB (zL yS (zW zY (pv 2) zF (fun _ _=>rfl)) zS (zO _)) (zE (zQ (i:=4) jK.nd rfl ‹0› (yY T.Up jL ‹hr› rfl T.aao T.qU T.qW zN (zA (pv 1) (zA (zW bQ (yI (zA zS (zA zS zD))) (zW zY (pv 3) zF (fun _ _=>rfl)) (fun _ _=>rfl)) zD))))) zP)
     (zC (yB (zL yS (zW zY (pv 2) zF (fun _ _=>rfl)) zS (zO _)) (zE (zQ (i:=4) jK.nd rfl ‹0› (yY T.Up jL ‹hr› rfl T.aao T.qU T.qW zN (zA (pv 1) (zA (zW bQ (yI (zA zS (zA zS (zA zS (zA zS (zA zS (zA zS zD))))))) (zW zY (pv 3) zF (fun _ _=>rfl)) (fun _ _=>rfl)) zD))))) zP)
     (zC (yB (zL yS (zU yT (zT du ‹hr› rfl T.gh T.gf T.gb .nil zN (zA (pv 0) (zA zF zD))) zF) zF (zO _)) (zE (zK (yY T.Uq mO ‹hr› rfl T.YT T.qX .nil zN (zA (pv 4) zD)))) zP)
     (zE (zK (pv 4))))))),?_⟩
 have ht':eY K H ta _:=eY.of ht
 have hk':eY K H kt _:=eY.of hk
 have i0:jD [V.str (kw x),.int x.lo,.int x.hi] ((0:Nat):Int)=some (.str (kw x)):=zV rfl
 have j0:jD [V.str h,.int m] ((0:Nat):Int)=some (.str h):=zV rfl
 have j1:jD [V.str h,.int m] ((1:Nat):Int)=some (.int m):=zV rfl
 refine⟨_,rfl,_,rfl,ta,_,_,_,rfl,rfl,ht',j0,_,rfl,ta,_,_,_,rfl,rfl,ht',j1,?_⟩
 intro xa dx nx nd ne
 refine⟨xa,dx,_,_,_,rfl,zB,rfl,?_⟩
 rw [yD]
 have s1:=yC nx nd (YZ A dx (N 0) h m)
 have h1:(upd (upd H dx (.own xa)) xa (YZ A dx (N 0) h m)) xa=some (YZ A dx (N 0) h m):=zB
 dsimp only [bO,List.set_cons_succ,List.set_cons_zero]
 generalize upd (upd H dx (.own xa)) xa (YZ A dx (N 0) h m)=H1 at s1 h1 ⊢
 refine p6 (fun σ H2=>∃ b,σ=[some (.ref a),some (.str (N 0)),some (.ref kt),some (.ref ta),some (.ref b)]∧aB H H2∧Fg A N H2 false b (aeG x h m)) ?_ ?_
 · rintro σ H2 ⟨b,rfl,s2,hb⟩
   refine p6 (fun σ H2=>∃ b,σ=[some (.ref a),some (.str (N 0)),some (.ref kt),some (.ref ta),some (.ref b)]∧aB H H2∧Fg A N H2 false b (Q9 x h m)) ?_ ?_
   · rintro σ H2 ⟨b,rfl,s2,hb⟩
     refine⟨_,rfl,a,ns,5,rfl,s2.seq hA,_,_,rfl,rfl,(by show (0:Int)<2;decide),rfl,_,rfl,?_⟩
     rw [deI]
     cases e:decide (eV ns 5 % 2=1) with
     | true =>
       rw [e] at q
       refine bT ⟨_,rfl,?_⟩
       intro z dz nz ndz nez
       refine⟨z,dz,_,rfl,zB,rfl,?_⟩
       rw [yD]
       have s3:=yC nz ndz (oNo A dz b)
       exact q (.ref z) _ (s2.trans s3) ⟨z,rfl,.inr ⟨rfl,dz,b,zB,hb.kq (.of s3)⟩⟩
     | false =>
       rw [e] at q
       exact aN ⟨_,rfl,q (.ref b) _ s2 ⟨b,rfl,.inl ⟨rfl,hb⟩⟩⟩
   · intro M hM
     refine⟨_,rfl,kt,_,_,_,rfl,rfl,s2.vI hk',i0,rfl,_,rfl,?_⟩
     cases x with
     | pk ws =>
       refine Jd rfl ?_
       obtain⟨_,_,k1,k2⟩:=hm
       obtain⟨n,n1,n2,rfl⟩:=hK
       have e:=u6 n2
       refine⟨_,rfl,(by show 6≤sizeLine;decide),fun wl hwl=>?_⟩
       have s3:=zG hwl (.lst (W6.map V.str))
       have hat:jD (W6.map V.str) m=some (.str (((W6.take n)[m.toNat]?).getD ‹""›)):=by
         obtain⟨v,hv,hv2⟩:=vC (l:=W6.map V.str) (i:=m) k1 (by rw [List.length_map];show m<6;omega)
         obtain⟨z,hz,rfl⟩:=rW hv2
         rw [hv,List.getElem?_take_of_lt (by omega),hz];rfl
       refine⟨_,rfl,ta,_,_,_,rfl,rfl,(s2.trans s3).vI ht',j1,wl,_,_,_,rfl,rfl,cB.of zB,hat,?_⟩
       intro z dz nz ndz nez
       refine⟨z,dz,_,_,_,rfl,zB,rfl,?_⟩
       rw [yD]
       exact hM _ _ ⟨z,rfl,(s2.trans s3).trans (yC nz ndz _),dz,zB⟩
     | yn=>exact qj (show ‹"yesno"› ≠ ‹"pick"› by symm) (hM _ _ ⟨b,rfl,s2,hb⟩)
     | nm _=>exact qj (show ‹"names"› ≠ ‹"pick"› by symm) (hM _ _ ⟨b,rfl,s2,hb⟩)
     | mo _ _=>exact qj (show ‹"money"› ≠ ‹"pick"› by symm) (hM _ _ ⟨b,rfl,s2,hb⟩)
     | wh _ _=>exact qj (show ‹"whole"› ≠ ‹"pick"› by symm) (hM _ _ ⟨b,rfl,s2,hb⟩)
 · intro M hM
   refine⟨_,rfl,kt,_,_,_,rfl,rfl,s1.vI hk',i0,rfl,_,rfl,?_⟩
   cases x with
   | yn =>
     refine Jd rfl ?_
     obtain⟨_,_,k1,k2⟩:=hm
     refine⟨_,rfl,(by show 2≤sizeLine;decide),fun wl hwl=>?_⟩
     have s3:=zG hwl (.lst [.str ‹"no"›,.str ‹"yes"›])
     have hat:jD [V.str ‹"no"›,V.str ‹"yes"›] m=some (.str (wdB (decide (m=1)))):=by
       have:m=0∨m=1:=by omega
       rcases this with rfl | rfl
       · exact zV (j:=0) rfl
       · exact zV (j:=1) rfl
     refine⟨_,rfl,ta,_,_,_,rfl,rfl,(s1.trans s3).vI ht',j1,wl,_,_,_,rfl,rfl,cB.of zB,hat,?_⟩
     intro z dz nz ndz nez
     refine⟨z,dz,_,_,_,rfl,zB,rfl,?_⟩
     rw [yD]
     exact hM _ _ ⟨z,rfl,(s1.trans s3).trans (yC nz ndz _),dz,zB⟩
   | pk _=>exact qj (show ‹"pick"› ≠ ‹"yesno"› by symm) (hM _ _ ⟨xa,rfl,s1,dx,h1⟩)
   | nm _=>exact qj (show ‹"names"› ≠ ‹"yesno"› by symm) (hM _ _ ⟨xa,rfl,s1,dx,h1⟩)
   | mo _ _=>exact qj (show ‹"money"› ≠ ‹"yesno"› by symm) (hM _ _ ⟨xa,rfl,s1,dx,h1⟩)
   | wh _ _=>exact qj (show ‹"whole"› ≠ ‹"yesno"› by symm) (hM _ _ ⟨xa,rfl,s1,dx,h1⟩)
end
def tpT (e:List V):Tr:=.tup (e.map Tr.leaf)
def rO (N:Nm) (kn:Option Bool) (dn:Bool):List (List V):=[rK (N 0)]++(if kn=some (!dn) then [rK (N 1)] else [])++(if kn=none then [] else [Jf])
def Ey (N:Nm) (kn:Option Bool) (dn:Bool) (sp:qx):List (List V):=[[.str (N 0),.int 0,.int sp.1,.int sp.2]]++(if kn=some (!dn) then [[.str (N 1),.int 0,.int 0,.int 1]] else [])
def Ai (N:Nm) (kn:Option Bool) (dn:Bool) (sp:qx):Tr:=.tup [.leaf (.str ‹"leaf"›),.leaf (.bl (!decide (kn=none))),.lst ((rO N kn dn).map tpT),.lst ((Ey N kn dn sp).map tpT),.lst []]
def NmR (H:Hp) (nl:Addr) (N:Nm):Prop:=H nl=some (.lst [.str (N 0),.str (N 1)])
def aa2:Sp:=fun vs H Q _=>∃ (nl:Addr) (N:Nm) (kn:Option Bool) (dn:Bool) (sp:qx),vs=[.ref nl,tv kn,.bl dn,.int sp.1,.int sp.2]∧NmR H nl N∧∀ x H',aB H H'→fD (fun a=>H a=none) H' 3 x (Ai N kn dn sp)→Q x H'
structure Ra (H0 H:Hp) (a b:Addr) (L R:List (List V)):Prop where
 same:aB H0 H
 na:H0 a=none
 nb:H0 b=none
 ab:a≠b
 la:∃ ts,H a=some (.lst ts)∧Paired (mQ H) ts L
 lb:∃ ts,H b=some (.lst ts)∧Paired (mQ H) ts R
theorem Ra.mono {H0 H H':Hp}{a b:Addr}{L R:List (List V)} (h:Ra H0 H a b L R) (s:aB H H'):Ra H0 H' a b L R:=by
 obtain⟨h1,h2,h3,h4,⟨t,h5,h6⟩,⟨u,h7,h8⟩⟩:=h
 exact⟨h1.trans s,h2,h3,h4,⟨t,s _ _ h5,zJ h6 fun _ _=>mQ.kq (.of s)⟩,⟨u,s _ _ h7,zJ h8 fun _ _=>mQ.kq (.of s)⟩⟩
theorem Ra.aa3 {H0 H:Hp}{a b:Addr}{L R:List (List V)} (h:Ra H0 H a b L R) {ts:List V} (ha:H a=some (.lst ts)) {t:Addr}{e:List V} (ht:H t=some (.tup e)):Ra H0 (upd H a (.lst (ts++[.ref t]))) a b (L++[e]) R:=by
 obtain⟨h1,h2,h3,h4,⟨t',h5,h6⟩,⟨u,h7,h8⟩⟩:=h
 rw [ha] at h5;cases h5
 refine⟨rM h1 h2 _,h2,h3,h4,⟨_,zB,xJ (Jg ha (fun _ z=>by cases z) h6) (.cons ⟨t,rfl,?_⟩ .nil)⟩,⟨u,?_,Jg ha (fun _ z=>by cases z) h8⟩⟩
 · rw [zI (yJ ht ha (by intro z;cases z))];exact ht
 · rw [zI (Ne.symm h4)];exact h7
theorem Ra.swap {H0 H:Hp}{a b:Addr}{L R:List (List V)} (h:Ra H0 H a b L R):Ra H0 H b a R L:=⟨h.same,h.nb,h.na,Ne.symm h.ab,h.lb,h.la⟩
theorem wL {F:Addr→Prop}{H:Hp}{n:Nat}:∀ {ts:List V}{L:List (List V)},Paired (mQ H) ts L→(∀ e∈L,e.length≤1000∧∀ v∈e,mU v)→Paired (fD F H (n+1)) ts (L.map tpT):=by
 intro ts L h
 induction h with
 | nil=>intro _;exact .nil
 | @cons a e _ _ r _ ih =>
   intro hf
   obtain⟨ta,rfl,ht⟩:=r
   have he:=hf e List.mem_cons_self
   exact .cons ⟨ta,e,rfl,ht,he.1,jW he.2⟩ (ih fun e' h'=>hf e' (List.mem_cons_of_mem _ h'))
theorem aeK {z n:Str}{i:Int}:∀ v∈[V.str z,.str n,.int i],mU v:=by
 intro v hv
 simp only [List.mem_cons,List.not_mem_nil,or_false] at hv
 rcases hv with rfl | rfl | rfl <;> trivial
theorem Za {n:Str}{i j k:Int}:∀ v∈[V.str n,.int i,.int j,.int k],mU v:=by
 intro v hv
 simp only [List.mem_cons,List.not_mem_nil,or_false] at hv
 rcases hv with rfl | rfl | rfl | rfl <;> trivial
theorem X6:∀ v∈Jf,mU v:=by
 intro v hv
 rw [List.mem_singleton.mp hv];trivial
theorem Jm (N:Nm) (kn:Option Bool) (dn:Bool):(rO N kn dn).length≤3∧∀ e∈rO N kn dn,e.length≤1000∧∀ v∈e,mU v:=by
 unfold rO
 refine⟨?_,fun e he=>?_⟩
 · split <;> split <;> simp
 · have h3:∀ n,(rK n).length≤1000∧∀ v∈rK n,mU v:=fun n=>⟨(by show 3≤1000;decide),aeK⟩
   have h1:Jf.length≤1000∧∀ v∈Jf,mU v:=⟨(by show 1≤1000;decide),X6⟩
   rcases List.mem_append.mp he with he | he
   · rcases List.mem_append.mp he with he | he
     · rw [List.mem_singleton.mp he];exact h3 _
     · split at he
       · rw [List.mem_singleton.mp he];exact h3 _
       · cases he
   · split at he
     · cases he
     · rw [List.mem_singleton.mp he];exact h1
theorem Vn (N:Nm) (kn:Option Bool) (dn:Bool) (sp:qx):(Ey N kn dn sp).length≤2∧∀ e∈Ey N kn dn sp,e.length≤1000∧∀ v∈e,mU v:=by
 unfold Ey
 refine⟨?_,fun e he=>?_⟩
 · split <;> simp
 · rcases List.mem_append.mp he with he | he
   · rw [List.mem_singleton.mp he];exact⟨(by show 4≤1000;decide),Za⟩
   · split at he
     · rw [List.mem_singleton.mp he];exact⟨(by show 4≤1000;decide),Za⟩
     · cases he
section
variable {P:Program}{w:World}{K:W.Frag}{mg:Str→Option Value}{base:Heap}{A:cT}
theorem Aj (T:Txt K mg A):aV P w K mg base bR 1 A.pW A.uA ["_law_names","_law_known","_law_denied","_law_low","_law_high"] aa2:=by
 refine T.NZ.ok rG (fun vs H Q E h=>?_) (fun cdv A0 outer s H vs Q E hr h=>?_)
 · obtain⟨nl,N,kn,dn,sp,rfl,_⟩:=h
   rfl
 obtain⟨nl,N,kn,dn,sp,rfl,hN,q⟩:=h
 refine⟨_,(zC (zQ (i:=5) rG.nd rfl ‹0› (yI (zA (yA (zA zS (zA (zW bQ (pv 0) zF (fun _ _=>rfl)) (zA zF zD)))) zD)))
     (zC (zQ (i:=6) rG.nd rfl ‹0› (yI (zA (yA (zA (zW bQ (pv 0) zF (fun _ _=>rfl)) (zA zF (zA (pv 3) (zA (pv 4) zD))))) zD)))
     (zC (yB (PW.pt (xK (zL vm (pv 1) yM (zO _)) (xC (zL Rz (pv 1) (pv 2) (zO _))))) (zC (yE (kO PySem.F.plainAttrs_list PySem.F.slot_list_append PySem.F.type_list_append yR (pv 5) (zA (yA (zA zS (zA (zW bQ (pv 0) zF (fun _ _=>rfl)) (zA zF zD)))) zD)))
     (zE (yE (kO PySem.F.plainAttrs_list PySem.F.slot_list_append PySem.F.type_list_append yR (pv 6) (zA (yA (zA (zW bQ (pv 0) zF (fun _ _=>rfl)) (zA zF (zA zF (zA zF zD))))) zD))))) zP)
     (zC (yB (zL vm (pv 1) yM (zO _)) (zE (yE (kO PySem.F.plainAttrs_list PySem.F.slot_list_append PySem.F.type_list_append yR (pv 5) (zA (yA (zA zS zD)) zD)))) zP)
     (zE (zK (yA (zA zS (zA (xG vm (pv 1) yM (zO _)) (zA (pv 5) (zA (pv 6) (zA (yI zD) zD)))))))))))),?_⟩
 have n0:jD [V.str (N 0),.str (N 1)] ((0:Nat):Int)=some (.str (N 0)):=zV rfl
 have n1:jD [V.str (N 0),.str (N 1)] ((1:Nat):Int)=some (.str (N 1)):=zV rfl
 refine⟨_,rfl,nl,_,_,_,rfl,rfl,cB.of hN,n0,(by show 3≤sizeLine;decide),fun t1 ht1=>?_⟩
 have s1:=zG ht1 (.tup (rK (N 0)))
 refine⟨(by show 1≤sizeLine;decide),fun lg V5=>?_⟩
 have s2:=zG V5 (.lst [.ref t1])
 refine⟨_,rfl,nl,_,_,_,rfl,rfl,cB.of ((s1.trans s2) _ _ hN),n0,_,rfl,_,rfl,(by show 4≤sizeLine;decide),fun t2 Q4=>?_⟩
 have s3:=zG Q4 (.tup [.str (N 0),.int 0,.int sp.1,.int sp.2])
 refine⟨(by show 1≤sizeLine;decide),fun rl hrl=>?_⟩
 have s4:=zG hrl (.lst [.ref t2])
 have W:Ra H (upd (upd (upd (upd H t1 (.tup [.str ‹"ask"›,.str (N 0),.int 0])) lg (.lst [.ref t1])) t2 (.tup [.str (N 0),.int 0,.int sp.1,.int sp.2])) rl (.lst [.ref t2])) lg rl [rK (N 0)] [[.str (N 0),.int 0,.int sp.1,.int sp.2]]:=by
   refine⟨((s1.trans s2).trans s3).trans s4,yK s1 V5,yK ((s1.trans s2).trans s3) hrl,zH (s3 _ _ zB) hrl,⟨_,s4 _ _ (s3 _ _ zB),.cons ⟨t1,rfl,s4 _ _ (s3 _ _ (s2 _ _ zB))⟩ .nil⟩,⟨_,zB,.cons ⟨t2,rfl,s4 _ _ zB⟩ .nil⟩⟩
 dsimp only [bO,List.set_cons_succ,List.set_cons_zero]
 generalize upd (upd (upd (upd H t1 (HO.tup [.str ‹"ask"›,.str (N 0),.int 0])) lg (HO.lst [.ref t1])) t2 (HO.tup [.str (N 0),.int 0,.int sp.1,.int sp.2])) rl (HO.lst [.ref t2])=H4 at W ⊢
 refine p6 (fun σ H5=>σ=[some (.ref nl),some (tv kn),some (.bl dn),some (.int sp.1),some (.int sp.2),some (.ref lg),some (.ref rl)]∧Ra H H5 lg rl ([rK (N 0)]++(if kn=some (!dn) then [rK (N 1)] else [])) (Ey N kn dn sp)) ?_ ?_
 · rintro σ H5 ⟨rfl,W⟩
   refine p6 (fun σ H5=>σ=[some (.ref nl),some (tv kn),some (.bl dn),some (.int sp.1),some (.int sp.2),some (.ref lg),some (.ref rl)]∧Ra H H5 lg rl (rO N kn dn) (Ey N kn dn sp)) ?_ ?_
   · rintro σ H6 ⟨rfl,W⟩
     refine⟨_,rfl,rfl,_,rfl,_,rfl,(by show 0≤sizeLine;decide),fun el hel=>?_⟩
     have s5:=zG hel (.lst [])
     refine⟨(by show 5≤sizeLine;decide),fun p hp=>?_⟩
     have s6:=zG hp (.tup [.str ‹"leaf"›,.bl (!decide (tv kn=.non)),.ref lg,.ref rl,.ref el])
     have W7:=(W.mono s5).mono s6
     obtain⟨ts,a1,a2⟩:=W7.la
     obtain⟨us,b1,b2⟩:=W7.lb
     obtain⟨l1,l2⟩:=Jm N kn dn
     obtain⟨r1,r2⟩:=Vn N kn dn sp
     have eb:(!decide (tv kn=V.non))=(!decide (kn=none)):=by cases kn <;> rfl
     rw [eb] at s6 W7 a1 a2 b1 b2 ⊢
     refine q (.ref p) _ W7.same ⟨p,_,rfl,zB,(by show 5≤1000;decide),.cons ⟨rfl,trivial⟩ (.cons ⟨rfl,trivial⟩ (.cons ⟨lg,ts,rfl,a1,by rw [zX a2];omega,wL a2 l2,W7.na⟩ (.cons ⟨rl,us,rfl,b1,by rw [zX b2];omega,wL b2 r2,W7.nb⟩ (.cons ⟨el,[],rfl,s6 _ _ zB,Nat.zero_le _,.nil,yK W.same hel⟩ .nil))))⟩
   · intro M hM
     cases kn with
     | none =>
       refine⟨_,rfl,rfl,_,rfl,aN (hM _ _ ⟨rfl,?_⟩)⟩
       unfold rO
       rw [if_pos rfl,List.append_nil];exact W
     | some b =>
       obtain⟨ts,a1,a2⟩:=W.la
       have tl:=zX a2
       have tl2:ts.length≤2:=by rw [tl];split <;> simp
       refine⟨_,rfl,rfl,_,rfl,bT ⟨_,rfl,.inl ⟨rfl,_,cB.of a1⟩,(by show 1≤sizeLine;decide),fun t3 ht3=>?_⟩⟩
       have s5:=zG ht3 (.tup Jf)
       refine⟨lg,_,_,rfl,rfl,s5 _ _ a1,yL (m:=1000) (by omega),hM _ _ ⟨rfl,?_⟩⟩
       unfold rO
       rw [if_neg (show ¬ (some b=none) from nofun)]
       exact (W.mono s5).aa3 (s5 _ _ a1) zB
 · intro M hM
   cases kn with
   | none =>
     refine⟨_,rfl,rfl,_,rfl,aN (aN (hM _ _ ⟨rfl,?_⟩))⟩
     unfold Ey
     rw [if_neg (show ¬ (none=some (!dn)) from nofun),if_neg (show ¬ (none=some (!dn)) from nofun)];exact W
   | some b =>
     refine⟨_,rfl,rfl,_,rfl,bT ⟨_,rfl,_,rfl,rfl,_,rfl,?_⟩⟩
     have ed:(!decide (tv (some b)=V.bl dn))=decide (some b=some (!dn)):=by cases b <;> cases dn <;> rfl
     rw [ed]
     refine lq (fun c=>?_) (fun c=>?_)
     · have c:=of_decide_eq_true c
       obtain⟨ts,a1,a2⟩:=W.la
       have tl:ts.length=1:=zX a2
       refine⟨_,rfl,.inl ⟨rfl,_,cB.of a1⟩,_,rfl,nl,_,_,_,rfl,rfl,cB.of (W.same _ _ hN),n1,(by show 3≤sizeLine;decide),fun t3 ht3=>?_⟩
       have s5:=zG ht3 (.tup (rK (N 1)))
       refine⟨lg,_,_,rfl,rfl,s5 _ _ a1,yL (m:=1000) (by omega),?_⟩
       have W5:Ra H (upd (upd H4 t3 (.tup [.str ‹"ask"›,.str (N 1),.int 0])) lg (.lst (ts++[.ref t3]))) lg rl ([rK (N 0)]++[rK (N 1)]) _:=(W.mono s5).aa3 (s5 _ _ a1) (show _=some (.tup (rK (N 1))) from zB)
       generalize upd (upd H4 t3 (HO.tup [.str ‹"ask"›,.str (N 1),.int 0])) lg (HO.lst (ts++[.ref t3]))=H5 at W5 ⊢
       obtain⟨us,b1,b2⟩:=W5.lb
       have tl:us.length=1:=zX b2
       refine⟨_,rfl,.inl ⟨rfl,_,cB.of b1⟩,_,rfl,nl,_,_,_,rfl,rfl,cB.of (W5.same _ _ hN),n1,(by show 4≤sizeLine;decide),fun t4 ht4=>?_⟩
       have s6:=zG ht4 (.tup [.str (N 1),.int 0,.int 0,.int 1])
       refine⟨rl,_,_,rfl,rfl,s6 _ _ b1,yL (m:=1000) (by omega),hM _ _ ⟨rfl,?_⟩⟩
       unfold Ey
       rw [if_pos c,if_pos c]
       exact ((W5.mono s6).swap.aa3 (s6 _ _ b1) zB).swap
     · refine hM _ _ ⟨rfl,?_⟩
       have c:¬ (some b=some (!dn)):=fun z=>c (decide_eq_true z)
       unfold Ey
       rw [if_neg c,if_neg c];exact W
end
def rP (N:Nm) (cut:Int) (n:Nat):Tr:=tpT [.str ‹"split"›,.str (N 0),.int 0,.int cut,.int (n:Nat),.int ((n:Nat)+1:Int)]
inductive NF (N:Nm) (t:At) (dn:Bool) (mo:Nat):List qx→List Tr→Nat→List Tr→Prop
 | done {sp:List qx}{nd:List Tr}{k:Nat}:sp.length≤nd.length→NF N t dn mo sp nd k nd
 | split {sp:List qx}{nd:List Tr}{k:Nat}{out:List Tr}{s:qx}:sp[nd.length]? = some s→mK s t.h t.m=none→k<mo→NF N t dn mo (sp++[(s.1,kJ t s.1),(kJ t s.1+1,s.2)]) (nd++[rP N (kJ t s.1) sp.length]) (k+1) out→NF N t dn mo sp nd k out
 | leaf {sp:List qx}{nd:List Tr}{k:Nat}{out:List Tr}{s:qx}:sp[nd.length]? = some s→¬ (mK s t.h t.m=none∧k<mo)→NF N t dn mo sp (nd++[Ai N (mK s t.h t.m) dn s]) k out→NF N t dn mo sp nd k out
theorem Vo (N:Nm) (t:At) (dn:Bool) (mo:Nat):∀ (m:Nat) (sp:List qx) (nd:List Tr) (k:Nat),2*(mo - k)+(sp.length - nd.length)≤m→∃ out,NF N t dn mo sp nd k out
 | 0,sp,nd,k,h=>⟨_,.done (by omega)⟩
 | m+1,sp,nd,k,h=>by
   by_cases e:sp.length≤nd.length
   · exact⟨_,.done e⟩
   obtain⟨s,hs⟩:∃ s,sp[nd.length]? = some s:=⟨_,List.getElem?_eq_getElem (by omega)⟩
   by_cases c:mK s t.h t.m=none∧k<mo
   · obtain⟨out,ho⟩:=Vo N t dn mo m (sp++[(s.1,kJ t s.1),(kJ t s.1+1,s.2)]) (nd++[rP N (kJ t s.1) sp.length]) (k+1) (by
       simp only [List.length_append,List.length_cons,List.length_nil];omega)
     exact⟨out,.split hs c.1 c.2 ho⟩
   · obtain⟨out,ho⟩:=Vo N t dn mo m sp (nd++[Ai N (mK s t.h t.m) dn s]) k (by
       simp only [List.length_append,List.length_cons,List.length_nil];omega)
     exact⟨out,.leaf hs c ho⟩
theorem Vp {t:At}{s:qx} (hw:Q8 t.h) (hle:s.1≤s.2) (hn:mK s t.h t.m=none):s.1≤kJ t s.1∧kJ t s.1+1≤s.2:=by
 obtain⟨lo,hi⟩:=s
 have hle:lo≤hi:=hle
 unfold kJ
 dsimp only
 generalize t.h=h at hw hn ⊢
 generalize t.m=m at hn ⊢
 rcases hw with rfl | rfl | rfl
 · rw [if_pos (show ‹"<"› = ‹"<"› from rfl)]
   rw [Vh hle] at hn
   split at hn
   · cases hn
   · split at hn
     · cases hn
     · omega
 · rw [if_neg (show ‹"="› ≠ ‹"<"› by symm),if_neg (show ‹"="› ≠ ‹">"› by symm)]
   rw [Vj hle] at hn
   unfold Ou
   split at hn
   · cases hn
   · split at hn
     · cases hn
     · split <;> omega
 · rw [if_neg (show ‹">"› ≠ ‹"<"› by symm),if_pos (show ‹">"› = ‹">"› from rfl)]
   rw [Vi hle] at hn
   split at hn
   · cases hn
   · split at hn
     · cases hn
     · omega
structure Ky (M:List Addr) (Hc H:Hp):Prop where
 fr:Fr M Hc H
 dm:∀ a,H a=none→Hc a=none
theorem Ky.same {M:List Addr}{Hc H H':Hp} (k:Ky M Hc H) (s:aB H H'):Ky M Hc H':=⟨k.fr.trans (Fr.of s),fun a h=>k.dm a (yK s h)⟩
theorem Ky.upd {M:List Addr}{Hc H:Hp} (k:Ky M Hc H) {m:Addr} (h:m∈M) (o:HO):Ky M Hc (L2.upd H m o):=⟨k.fr.upd h o,fun a e=>k.dm a (jV e).2⟩
theorem Jo {F:Addr→Prop}{H:Hp}{nl:Addr}{nx:List V}{nd:List Tr}{x:V}{t:Tr}{n:Nat} (hn:H nl=some (.lst nx)) (hF:¬ F nl) (hp:Paired (fD F H n) nx nd) (hx:fD F H n x t):Paired (fD F (upd H nl (.lst (nx++[x]))) n) (nx++[x]) (nd++[t]):=xJ (zJ hp fun _ _ z=>fD.upd hn hF z) (.cons (fD.upd hn hF hx) .nil)
def SpR (H:Hp) (x:V) (s:qx):Prop:=mQ H x [.int s.1,.int s.2]
theorem Vq {H:Hp}{m:Addr}{o:HO}{l:List V}{sx:List V}{sp:List qx} (hm:H m=some (.lst l)) (h:Paired (SpR H) sx sp):Paired (SpR (upd H m o)) sx sp:=zJ h fun _ _ z=>Oq hm (fun _ z=>by cases z) z
theorem Jp {H H':Hp} (s:aB H H') {sx:List V}{sp:List qx} (h:Paired (SpR H) sx sp):Paired (SpR H') sx sp:=zJ h fun _ _ z=>mQ.kq (.of s) z
theorem aa5 {i j l:Nat}{σ:St}{H:Hp}{kn:Option Bool}{k m:Int}{Q:Bool→Hp→Prop} (h1:σ[i]? = some (some (tv kn))) (h2:σ[j]? = some (some (.int k))) (h3:σ[l]? = some (some (.int m))) (q:Q (decide (kn=none) && decide (k<m)) H) :
   Qm (qb (Mq (fun x y H Q=>y=V.non∧Q (.bl (decide (x=V.non))) H) (mX i) (tC .non))) (qb (Mq (O6 fun i j=>.bl (decide (i<j))) (mX j) (mX l))) σ H Q:=by
 refine⟨_,h1,rfl,_,rfl,?_⟩
 cases kn with
 | none=>exact bT ⟨_,h2,_,h3,_,_,rfl,rfl,_,rfl,q⟩
 | some b=>exact aN q
def X7:Sp:=fun vs H Q _=>∃ (X8:Addr) (N:Nm) (ta:Addr) (t:At) (dn:Bool) (st:Addr) (s:qx) (mo:Nat) (out:List Tr),vs=[.ref X8,.ref ta,.bl dn,.ref st,.int (mo:Nat)]∧NmR H X8 N∧H ta=some (.tup [.str t.h,.int t.m])∧Q8 t.h∧H st=some (.tup [.int s.1,.int s.2])∧s.1≤s.2∧mo≤6∧NF N t dn mo [s] [] 0 out ∧
 ∀ p H',aB H H'→fD (fun a=>H a=none) H' 4 (.ref p) (.lst out)→Q (.ref p) H'
theorem Zb {a b:Str}{i j k l:Int}:∀ v∈[V.str a,.str b,.int i,.int j,.int k,.int l],mU v:=by
 intro v hv
 simp only [List.mem_cons,List.not_mem_nil,or_false] at hv
 rcases hv with rfl | rfl | rfl | rfl | rfl | rfl <;> trivial
section
variable {P:Program}{w:World}{K:W.Frag}{mg:Str→Option Value}{base:Heap}{A:cT}
theorem Jq (T:Txt K mg A):aV P w K mg base bR 2 A.nu A.qO ["_law_names","_law_atom_here","_law_denied","_law_span","_law_most"] X7:=by
 have rQ:=wK (P:=P) (w:=w) (base:=base) T
 have yt:=Ex (P:=P) (w:=w) (base:=base) T
 have vd:=Aj (P:=P) (w:=w) (base:=base) T
 refine T.KC.ok di (fun vs H Q E h=>?_) (fun cdv A0 outer s H vs Q E hr h=>?_)
 · obtain⟨X8,N,ta,t,dn,st,s,mo,out,rfl,_⟩:=h
   rfl
 obtain⟨X8,N,ta,t,dn,st,s,mo,out,rfl,hN,hta,hw,hst,hle,hmo,hNF,q⟩:=h
 refine⟨_,(zC (zQ (i:=5) di.nd rfl ‹0› (yI (zA (pv 3) zD)))
     (zC (zQ (i:=6) di.nd rfl ‹0› (yI zD))
     (zC (zQ (i:=7) di.nd rfl ‹0› zF)
     (zC (wY PassesOwn.never (zL m5 (zR zZ (by rfl) T.jf PySem.boot_len (zA (pv 6) zD)) (zR zZ (by rfl) T.jf PySem.boot_len (zA (pv 5) zD)) (zO _)) (zC (Rq (zW bQ (pv 5) (zR zZ (by rfl) T.jf PySem.boot_len (zA (pv 6) zD)) (fun _ _=>rfl)) (Ht rfl (jN (yW (i:=8) di.nd rfl ‹0›) (jN (yW (i:=9) di.nd rfl ‹0›) Bq))))
     (zC (zQ (i:=10) di.nd rfl ‹0› (zT rQ ‹hr› rfl T.zy T.zx T.zu .nil zN (zA (zW zY (pv 1) zF (fun _ _=>rfl)) (zA (pv 8) (zA (pv 9) (zA (zW zY (pv 1) zF (fun _ _=>rfl)) zD))))))
     (zE (yB (PW.pt (xK (zL xO (pv 10) yM (zO _)) (xC (zL m5 (pv 7) (pv 4) (zO _))))) (zC (zQ (i:=11) di.nd rfl ‹0› (zT yt ‹hr› rfl T.Hh T.Hg T.Hf .nil zN (zA (zW zY (pv 1) zF (fun _ _=>rfl)) (zA (pv 8) (zA (zW zY (pv 1) zF (fun _ _=>rfl)) zD)))))
     (zC (yE (kO PySem.F.plainAttrs_list PySem.F.slot_list_append PySem.F.type_list_append yR (pv 6) (zA (yA (zA zS (zA (zW bQ (pv 0) zF (fun _ _=>rfl)) (zA zF (zA (pv 11) (zA (zR zZ (by rfl) T.jf PySem.boot_len (zA (pv 5) zD)) (zA (zU yU (zR zZ (by rfl) T.jf PySem.boot_len (zA (pv 5) zD)) zF) zD))))))) zD)))
     (zC (zQ (i:=5) di.nd rfl ‹0› (zU RW (pv 5) (yI (zA (yA (zA (pv 8) (zA (pv 11) zD))) (zA (yA (zA (zU yU (pv 11) zF) (zA (pv 9) zD))) zD)))))
     (zE (zQ (i:=7) di.nd rfl ‹0› (zU yU (pv 7) zF)))))) (zE (yE (kO PySem.F.plainAttrs_list PySem.F.slot_list_append PySem.F.type_list_append yR (pv 6) (zA (zT vd ‹hr› rfl T.DN T.DK T.DG .nil zN (zA (pv 0) (zA (pv 10) (zA (pv 2) (zA (pv 8) (zA (pv 9) zD)))))) zD)))))))))
     (zE (zK (pv 6))))))),?_⟩
 have n0:jD [V.str (N 0),.str (N 1)] ((0:Nat):Int)=some (.str (N 0)):=zV rfl
 have j0:jD [V.str t.h,.int t.m] ((0:Nat):Int)=some (.str t.h):=zV rfl
 have j1:jD [V.str t.h,.int t.m] ((1:Nat):Int)=some (.int t.m):=zV rfl
 refine⟨_,rfl,(by show 1≤sizeLine;decide),fun sl hsl=>?_⟩
 have s1:=zG hsl (.lst [.ref st])
 refine⟨(by show 0≤sizeLine;decide),fun nl hnl=>?_⟩
 have s2:=zG hnl (.lst [])
 have aeL:=s2 _ _ (show (upd H sl (.lst [.ref st])) sl=some (.lst [.ref st]) from zB)
 have Jr:(upd (upd H sl (.lst [.ref st])) nl (.lst [])) nl=some (.lst []):=zB
 have s12:=s1.trans s2
 have nn1:=yK s1 hnl
 have nsn:sl≠nl:=zH (show (upd H sl (.lst [.ref st])) sl=some _ from zB) hnl
 dsimp only [bO,List.set_cons_succ,List.set_cons_zero]
 generalize upd (upd H sl (HO.lst [.ref st])) nl (HO.lst [])=Hc at s12 aeL Jr ⊢
 have nF:¬ (fun a=>Hc a=none) nl:=fun z=>by rw [show Hc nl=none from z] at Jr;cases Jr
 have aqu:X8≠nl:=zH hN nn1
 have nta:ta≠nl:=zH hta nn1
 refine⟨fun m σ H'=>∃ sl sx nx u8 u9 u10 u11 sp nd,∃ k:Nat,σ=[some (.ref X8),some (.ref ta),some (.bl dn),some (.ref st),some (.int (mo:Nat)),some (.ref sl),some (.ref nl),some (.int (k:Nat)),u8,u9,u10,u11]∧Ky [nl] Hc H'∧sl≠nl∧H' sl=some (.lst sx)∧Paired (SpR H') sx sp∧H' nl=some (.lst nx)∧Paired (fD (fun a=>Hc a=none) H' 3) nx nd∧nd.length≤sp.length∧sp.length≤1+2*k∧k≤mo∧(∀ s∈sp,s.1≤s.2)∧NF N t dn mo sp nd k out∧m=2*(mo - k)+(sp.length - nd.length),
   ⟨_,sl,[.ref st],[],_,_,_,_,[s],[],0,rfl,⟨Fr.of (aB.refl _),fun _ z=>z⟩,nsn,aeL,.cons ⟨st,rfl,s12 _ _ hst⟩ .nil,Jr,.nil,Nat.zero_le _,Nat.le_refl _,Nat.zero_le _,fun s' h'=>by rw [List.mem_singleton.mp h'];exact hle,hNF,rfl⟩,?_⟩
 rintro m σ H1 ⟨sl,sx,nx,u8,u9,u10,u11,sp,nd,k,rfl,hK,nsl,hs,hsp,hn,hnd,hl1,hl2,hk,hall,hF,rfl⟩
 have ls:=zX hsp
 have ln:=zX hnd
 refine⟨_,rfl,nl,_,rfl,.inl (cB.of hn),_,rfl,sl,_,rfl,.inl (cB.of hs),_,_,rfl,rfl,_,rfl,lq (fun d=>?_) (fun d=>?_)⟩
 · have d:((nx.length:Nat):Int)<(sx.length:Nat):=of_decide_eq_true d
   have hN1:=hK.fr _ _ (s12 _ _ hN) (p7 aqu)
   have Yb:=hK.fr _ _ (s12 _ _ hta) (p7 nta)
   obtain⟨x,hx⟩:∃ x,sx[nd.length]? = some x:=⟨_,List.getElem?_eq_getElem (by omega)⟩
   obtain⟨s,hss,xa,rfl,hxa⟩:=yO hsp hx
   have Yc:=hall s (List.mem_of_getElem? hss)
   refine⟨fun σ' H'=>∃ sl sx nx u8 u9 u10 u11 BV qt,∃ k':Nat,σ'=[some (.ref X8),some (.ref ta),some (.bl dn),some (.ref st),some (.int (mo:Nat)),some (.ref sl),some (.ref nl),some (.int (k':Nat)),u8,u9,u10,u11]∧Ky [nl] Hc H'∧sl≠nl∧H' sl=some (.lst sx)∧Paired (SpR H') sx BV∧H' nl=some (.lst nx)∧Paired (fD (fun a=>Hc a=none) H' 3) nx qt∧qt.length≤BV.length∧BV.length≤1+2*k'∧k'≤mo∧(∀ s∈BV,s.1≤s.2)∧NF N t dn mo BV qt k' out∧2*(mo - k')+(BV.length - qt.length)<2*(mo - k)+(sp.length - nd.length),fun σ' H' z=>?_,?_⟩
   · obtain⟨sl,sx,nx,u8,u9,u10,u11,BV,qt,k',h1,h2,h3,h4,h5,h6,h7,h8,h9,h10,h11,h12,h13⟩:=z
     exact⟨_,h13,sl,sx,nx,u8,u9,u10,u11,BV,qt,k',h1,h2,h3,h4,h5,h6,h7,h8,h9,h10,h11,h12,rfl⟩
   refine⟨_,rfl,_,rfl,nl,_,rfl,.inl (cB.of hn),sl,_,_,_,rfl,rfl,cB.of hs,(by rw [ln];exact zV hx),xa,_,rfl,eY.of hxa,rfl,_,_,rfl,_,_,rfl,rfl,?_⟩
   dsimp only [bO,List.set_cons_succ,List.set_cons_zero]
   refine⟨_,rfl,ta,_,_,_,rfl,rfl,eY.of Yb,j0,_,rfl,_,rfl,_,rfl,ta,_,_,_,rfl,rfl,eY.of Yb,j1,t.h,s.1,s.2,t.m,rfl,hw,Yc,?_⟩
   dsimp only [bO,List.set_cons_succ,List.set_cons_zero]
   have lf:¬ (mK s t.h t.m=none∧k<mo)→NF N t dn mo sp (nd++[Ai N (mK s t.h t.m) dn s]) k out:=fun c=>by
     cases hF with
     | done z=>omega
     | split z1 z2 z3 _=>rw [hss] at z1;cases z1;exact absurd ⟨z2,z3⟩ c
     | leaf z1 _ z3=>rw [hss] at z1;cases z1;exact z3
   have sf:mK s t.h t.m=none→k<mo→NF N t dn mo (sp++[(s.1,kJ t s.1),(kJ t s.1+1,s.2)]) (nd++[rP N (kJ t s.1) sp.length]) (k+1) out:=fun c1 c2=>by
     cases hF with
     | done z=>omega
     | split z1 z2 z3 z4=>rw [hss] at z1;cases z1;exact z4
     | leaf z1 z2 _=>rw [hss] at z1;cases z1;exact absurd ⟨c1,c2⟩ z2
   have Yd:=fun z=>Vp (s:=s) hw Yc z
   have ee:mK (s.1,s.2) t.h t.m=mK s t.h t.m:=rfl
   rw [ee]
   generalize mK s t.h t.m=kn at lf sf Yd ⊢
   refine aa5 rfl rfl rfl ?_
   refine lq (fun c=>?_) (fun c=>?_)
   · have c:kn=none∧(k:Int)<mo:=by
       rw [Bool.and_eq_true] at c
       exact⟨of_decide_eq_true c.1,of_decide_eq_true c.2⟩
     have hF2:=sf c.1 (by omega)
     have hc2:=Yd c.1
     refine⟨_,rfl,ta,_,_,_,rfl,rfl,eY.of Yb,j0,_,rfl,_,rfl,ta,_,_,_,rfl,rfl,eY.of Yb,j1,t,s.1,rfl,hw,?_⟩
     generalize kJ t s.1=cut at hF2 hc2 ⊢
     dsimp only [bO,List.set_cons_succ,List.set_cons_zero]
     refine⟨_,rfl,.inl ⟨rfl,_,cB.of hn⟩,_,rfl,X8,_,_,_,rfl,rfl,cB.of hN1,n0,_,rfl,_,rfl,sl,_,rfl,.inl (cB.of hs),_,rfl,sl,_,rfl,.inl (cB.of hs),_,_,rfl,rfl,(by show 6≤sizeLine;decide),fun t3 ht3=>?_⟩
     have a1:=zG ht3 (.tup [.str ‹"split"›,.str (N 0),.int 0,.int cut,.int (sx.length:Nat),.int ((sx.length:Nat)+1:Int)])
     refine⟨nl,_,_,rfl,rfl,a1 _ _ hn,yL (m:=1000) (by omega),?_⟩
     have hT3:(upd H1 t3 (.tup [.str ‹"split"›,.str (N 0),.int 0,.int cut,.int (sx.length:Nat),.int ((sx.length:Nat)+1:Int)])) t3=some (.tup [.str ‹"split"›,.str (N 0),.int 0,.int cut,.int (sx.length:Nat),.int ((sx.length:Nat)+1:Int)]):=zB
     have tr:fD (fun a=>Hc a=none) (upd H1 t3 (.tup [.str ‹"split"›,.str (N 0),.int 0,.int cut,.int (sx.length:Nat),.int ((sx.length:Nat)+1:Int)])) 3 (.ref t3) (rP N cut sx.length):=⟨t3,_,rfl,hT3,(by show 6≤1000;decide),jW Zb⟩
     have nd2:=Jo (a1 _ _ hn) nF (zJ hnd fun _ _ z=>fD.same a1 z) tr
     have K2:=(hK.same a1).upd (List.mem_singleton.mpr rfl) (.lst (nx++[.ref t3]))
     have hs2:(upd (upd H1 t3 (.tup [.str ‹"split"›,.str (N 0),.int 0,.int cut,.int (sx.length:Nat),.int ((sx.length:Nat)+1:Int)])) nl (.lst (nx++[.ref t3]))) sl=some (.lst sx):=by rw [zI nsl];exact a1 _ _ hs
     have sp2:=Vq (o:=.lst (nx++[.ref t3])) (a1 _ _ hn) (Jp a1 hsp)
     have hn2:(upd (upd H1 t3 (.tup [.str ‹"split"›,.str (N 0),.int 0,.int cut,.int (sx.length:Nat),.int ((sx.length:Nat)+1:Int)])) nl (.lst (nx++[.ref t3]))) nl=some (.lst (nx++[.ref t3])):=zB
     generalize upd (upd H1 t3 (HO.tup [.str ‹"split"›,.str (N 0),.int 0,.int cut,.int (sx.length:Nat),.int ((sx.length:Nat)+1:Int)])) nl (HO.lst (nx++[.ref t3]))=H2 at nd2 K2 hs2 sp2 hn2 ⊢
     refine⟨_,rfl,_,rfl,_,rfl,(by show 2≤sizeLine;decide),fun b1 hb1=>?_⟩
     have c1:=zG hb1 (.tup [.int s.1,.int cut])
     refine⟨_,rfl,_,_,rfl,rfl,_,rfl,(by show 2≤sizeLine;decide),fun b2 hb2=>?_⟩
     have c2:=zG hb2 (.tup [.int (cut+1),.int s.2])
     refine⟨(by show 2≤sizeLine;decide),fun b3 hb3=>?_⟩
     have c3:=zG hb3 (.lst [.ref b1,.ref b2])
     refine⟨sl,b3,_,_,rfl,rfl,(c1.trans c2).trans c3 |>.trans (aB.refl _) |> (fun z=>z _ _ hs2),zB,yL (m:=1000) (by show sx.length+2≤1000;omega),fun sn hsn=>?_⟩
     have c4:=zG hsn (.lst (sx++[.ref b1,.ref b2]))
     have c14:=((c1.trans c2).trans c3).trans c4
     dsimp only [bO,List.set_cons_succ,List.set_cons_zero]
     refine⟨_,rfl,_,_,rfl,rfl,?_⟩
     refine⟨sn,_,nx++[.ref t3],_,_,_,_,sp++[(s.1,cut),(cut+1,s.2)],nd++[rP N cut sp.length],k+1,rfl,K2.same c14,Ne.symm (zH (((c1.trans c2).trans c3) _ _ hn2) hsn),zB,xJ (Jp c14 sp2) (.cons ⟨b1,rfl,c4 _ _ (c3 _ _ (c2 _ _ zB))⟩ (.cons ⟨b2,rfl,c4 _ _ (c3 _ _ zB)⟩ .nil)),c14 _ _ hn2,?_,?_,?_,by omega,?_,hF2,?_⟩
     · rw [← ls];exact zJ nd2 fun _ _ z=>fD.same c14 z
     · simp only [List.length_append,List.length_cons,List.length_nil];omega
     · simp only [List.length_append,List.length_cons,List.length_nil];omega
     · intro s' h'
       rcases List.mem_append.mp h' with h' | h'
       · exact hall s' h'
       · simp only [List.mem_cons,List.not_mem_nil,or_false] at h'
         rcases h' with rfl | rfl
         · exact hc2.1
         · exact hc2.2
     · simp only [List.length_append,List.length_cons,List.length_nil];omega
   · have c:¬ (kn=none∧k<mo):=fun z=>c (by rw [decide_eq_true z.1,decide_eq_true (show (k:Int)<mo by omega)];rfl)
     refine⟨_,rfl,.inl ⟨rfl,_,cB.of hn⟩,_,rfl,_,rfl,_,rfl,_,rfl,_,rfl,X8,N,kn,dn,s,rfl,hN1,fun x H3 s3 hx3=>?_⟩
     have nd2:=Jo (s3 _ _ hn) nF (zJ hnd fun _ _ z=>fD.same s3 z) (fD.weak (fun a za=>hK.dm a za) hx3)
     refine⟨nl,_,_,rfl,rfl,s3 _ _ hn,yL (m:=1000) (by omega),?_⟩
     refine⟨sl,sx,_,_,_,_,_,sp,nd++[Ai N kn dn s],k,rfl,(hK.same s3).upd (List.mem_singleton.mpr rfl) _,nsl,by rw [zI nsl];exact s3 _ _ hs,Vq (s3 _ _ hn) (Jp s3 hsp),zB,nd2,?_,hl2,hk,hall,lf c,?_⟩
     · simp only [List.length_append,List.length_cons,List.length_nil];omega
     · simp only [List.length_append,List.length_cons,List.length_nil];omega
 · have d:¬ (((nx.length:Nat):Int)<(sx.length:Nat)):=fun z=>d (decide_eq_true z)
   cases hF with
   | done _ =>
     refine⟨_,rfl,q nl H1 (fun b o e=>hK.fr _ _ (s12 _ _ e) (p7 (zH e nn1))) ⟨nl,nx,rfl,hn,by omega,zJ hnd fun _ _ z=>fD.weak (fun a za=>yK s12 za) z,nn1⟩⟩
   | split z1 _ _ _=>have:=(List.getElem?_eq_some_iff.mp z1).1;omega
   | leaf z1 _ _=>have:=(List.getElem?_eq_some_iff.mp z1).1;omega
end
def ql (H:Hp) (bx:Addr) (z:Str) (s:qx):Prop:=∃ t,H bx=some (.dT [(keyOf z,.ref t)])∧H t=some (.tup [.int s.1,.int s.2])
theorem ql.kq {H H':Hp} (f:Kq H H') {bx:Addr}{z:Str}{s:qx} (h:ql H bx z s):ql H' bx z s:=by
 obtain⟨t,h1,h2⟩:=h
 exact⟨t,f _ _ h1 trivial,f _ _ h2 trivial⟩
theorem Vr {k k':List Key}{v:V}:eU [(k,v)] k'=if k=k' then some v else none:=by
 by_cases e:k=k'
 · rw [if_pos e,yZ e]
 · rw [if_neg e,xB e];rfl
def aeN:Option Str→List V
 | some n=>rK n
 | none=>Jf
def Ri (rg:Rg) (n:Str):List V:=[.str n,.int 0,.int (rg n).1,.int (rg n).2]
def aeO:Sp:=fun vs H Q _=>∃ (bx t0:Addr) (z:Str) (st:Addr),vs=[.ref bx,.str z,.int 0,.ref st]∧H bx=some (.dT [(keyOf z,.ref t0)])∧∀ d H',H d=none→aB H H'→H' d=some (.dT [(keyOf z,.ref st)])→Q (.ref d) H'
def Ye (A:cT):Sp:=fun vs H Q _=>∃ bx kd kvs S rg r s cut,vs=[.ref bx,.ref kd,.str r.nm,.int 0,.int cut]∧H kd=some (.dK kvs)∧Rc A H kvs S∧XD H bx S rg∧gU S r∧rg r.nm=s∧ql H bx r.nm s ∧
 ∀ p b1 b2 H',aB H H'→H' p=some (.lst [.ref b1,.ref b2])→ql H' b1 r.nm (s.1,cut)→ql H' b2 r.nm (cut+1,s.2)→Q (.ref p) H'
def aeP (A:cT):Sp:=fun vs H Q _=>∃ (lg:Addr) (ts:List V) (ls:List (Option Str)) (bx kd:Addr) (kvs:List (Key × V)) (S:List oZ) (rg:Rg),vs=[.ref lg,.ref bx,.ref kd]∧H lg=some (.lst ts)∧Paired (mQ H) ts (ls.map aeN)∧(∀ n,some n∈ls→Et S n)∧ls.length≤100∧H kd=some (.dK kvs)∧Rc A H kvs S∧XD H bx S rg ∧
 ∀ p us H',aB H H'→H p=none→H' p=some (.lst us)→Paired (mQ H') us ((ls.filterMap id).map (Ri rg))→Q (.ref p) H'
section
variable {P:Program}{w:World}{K:W.Frag}{mg:Str→Option Value}{base:Heap}{A:cT}
theorem LK (T:Txt K mg A):aV P w K mg base bR 1 A.pL A.ur ["box","question","k","span"] aeO:=by
 refine T.Nk.ok Ad (fun vs H Q E h=>?_) (fun cdv A0 outer s H vs Q E hr h=>?_)
 · obtain⟨bx,t0,z,st,rfl,_⟩:=h
   rfl
 obtain⟨bx,t0,z,st,rfl,hb,q⟩:=h
 refine⟨_,(zC (zQ (i:=4) Ad.nd rfl ‹0› (xN vL (by rfl) T.N5 Bt.dict (zA (pv 0) zD)))
     (zC (vA (xM hr) (pv 4) (yA (zA (pv 1) (zA (pv 2) zD))) (pv 3) rfl)
     (zE (zK (pv 4))))),?_⟩
 refine⟨_,rfl,bx,keyOf z,_,rfl,hb,fun d hd=>?_⟩
 have s1:=zG hd (.dT [(keyOf z,.ref t0)])
 dsimp only [bO,List.set_cons_succ,List.set_cons_zero]
 refine⟨_,rfl,_,rfl,_,rfl,_,rfl,(by show 2≤sizeLine;decide),fun kt hkt=>?_⟩
 have s2:=zG hkt (.tup [.str z,.int 0])
 refine⟨d,_,rfl,Cd.t (k:=keyOf z) (s2 _ _ zB) zB (by show 1<sizeLine;decide),?_⟩
 have e:putK [(keyOf z,V.ref t0)] (keyOf z) (.ref st)=[(keyOf z,.ref st)]:=by simp [putK]
 rw [e]
 refine⟨_,rfl,q d _ hd (fun b o hb=>?_) zB⟩
 rw [zI (zH hb hd)];exact (s1.trans s2) _ _ hb
theorem LQ (T:Txt K mg A):aV P w K mg base bR 2 A.pM A.uv ["box","kinds","question","k","cut"] (Ye A):=by
 have mR:=rN (P:=P) (w:=w) (base:=base) T
 have Ez:=LK (P:=P) (w:=w) (base:=base) T
 refine T.Np.ok Ae (fun vs H Q E h=>?_) (fun cdv A0 outer s H vs Q E hr h=>?_)
 · obtain⟨bx,kd,kvs,S,rg,r,s,cut,rfl,_⟩:=h
   rfl
 obtain⟨bx,kd,kvs,S,rg,r,s,cut,rfl,hk,hK,hB,hr',hs,⟨t0,hb,ht0⟩,q⟩:=h
 refine⟨_,(zC (zQ (i:=5) Ae.nd rfl ‹0› (zT mR ‹hr› rfl T.uI T.uH T.uG .nil zN (zA (pv 0) (zA (pv 1) (zA (pv 2) (zA (pv 3) zD))))))
     (zE (zK (yI (zA (zT Ez ‹hr› rfl T.Dv T.Du T.Dt .nil zN (zA (pv 0) (zA (pv 2) (zA (pv 3) (zA (yA (zA (zW zY (pv 5) zF (fun _ _=>rfl)) (zA (pv 4) zD))) zD))))) (zA (zT Ez ‹hr› rfl T.Dv T.Du T.Dt .nil zN (zA (pv 0) (zA (pv 2) (zA (pv 3) (zA (yA (zA (zU yU (pv 4) zF) (zA (zW zY (pv 5) zF (fun _ _=>rfl)) zD))) zD))))) zD)))))),?_⟩
 refine⟨_,rfl,_,rfl,_,rfl,_,rfl,bx,kd,kvs,S,rg,r,rfl,hk,hK,hB,hr',fun t H1 s1 ht=>?_⟩
 rw [hs] at ht
 have ht':eY K H1 t _:=eY.of ht
 have j0:jD [V.int s.1,.int s.2] ((0:Nat):Int)=some (.int s.1):=zV rfl
 have j1:jD [V.int s.1,.int s.2] ((1:Nat):Int)=some (.int s.2):=zV rfl
 dsimp only [bO,List.set_cons_succ,List.set_cons_zero]
 refine⟨_,rfl,_,rfl,_,rfl,_,rfl,t,_,_,_,rfl,rfl,ht',j0,_,rfl,(by show 2≤sizeLine;decide),fun u1 hu1=>?_⟩
 have s2:=zG hu1 (.tup [.int s.1,.int cut])
 refine⟨bx,t0,r.nm,u1,rfl,(s1.trans s2) _ _ hb,fun d1 H2 n1 s3 hd1=>?_⟩
 refine⟨_,rfl,_,rfl,_,rfl,_,rfl,_,_,rfl,rfl,_,rfl,t,_,_,_,rfl,rfl,(s2.trans s3).vI ht',j1,(by show 2≤sizeLine;decide),fun u2 hu2=>?_⟩
 have s4:=zG hu2 (.tup [.int (cut+1),.int s.2])
 refine⟨bx,t0,r.nm,u2,rfl,(((s1.trans s2).trans s3).trans s4) _ _ hb,fun d2 H3 n2 s5 hd2=>?_⟩
 refine⟨(by show 2≤sizeLine;decide),fun p hp=>?_⟩
 have s6:=zG hp (.lst [.ref d1,.ref d2])
 exact q p d1 d2 _ (((((s1.trans s2).trans s3).trans s4).trans s5).trans s6) zB ⟨u1,((s4.trans s5).trans s6) _ _ hd1,(((s3.trans s4).trans s5).trans s6) _ _ zB⟩ ⟨u2,s6 _ _ hd2,(s5.trans s6) _ _ zB⟩
theorem Js (T:Txt K mg A):aV P w K mg base bR 2 A.m7 A.qK ["log","box","kinds"] (aeP A):=by
 have mR:=rN (P:=P) (w:=w) (base:=base) T
 refine T.Kl.ok wI (fun vs H Q E h=>?_) (fun cdv A0 outer s H vs Q E hr h=>?_)
 · obtain⟨lg,ts,ls,bx,kd,kvs,S,rg,rfl,_⟩:=h
   rfl
 obtain⟨lg,ts,ls,bx,kd,kvs,S,rg,rfl,V5,hts,aa8,hl,hk,hK,hB,q⟩:=h
 refine⟨_,(zC (TJ (i:=3) wI.nd rfl ‹0› (lG (x:="row") (M:=["log","box","kinds","asked"]) rfl (by rfl)) rfl (xH (pv 0)) (fun _ _ _ _=>Tv (by exact (S8 (zL yS (zW zY (pv 0) zF (fun _ _=>rfl)) zS (zO _)))) (by dsimp only [dW] <;> rfl)) (fun _ _ _ _=>HR (by exact (JM ZW (pv 0) (Ph zF) Pg)) (by dsimp only [dW] <;> rfl)))
     (zE (zK (Cy (ue (lG (x:="question") (M:=["log","box","kinds","asked"]) rfl (by rfl)) (by rfl) (by symm)) rfl (xH (pv 3)) (fun _ _ _ _=>Cw) (fun _ _ _ _=>HR (by exact (zU Hx (yA (zA (pv 0) (zA (pv 1) zD))) (zT mR ‹hr› rfl T.uI T.uH T.uG .nil zN (zA (pv 3) (zA (pv 4) (zA (pv 0) (zA (pv 1) zD))))))) (by dsimp only [fu] <;> rfl)))))),?_⟩
 have lt:=zX hts
 rw [List.length_map] at lt
 refine⟨_,rfl,lg,rfl,⟨ts,cB.of V5⟩,?_⟩
 refine M4 (xs:=ts) (yL (m:=1000) (by omega)) (fun i zs G=>aB H G∧Paired (mQ G) zs (((ls.take i).filterMap id).map fun n=>[V.str n,.int 0])) ⟨aB.refl _,.nil⟩ (fun i zs G hw=>cB.of (hw.1 _ _ V5)) (fun i x zs G hx hzl hw=>?_) (fun zs G hw p hp=>?_)
 · obtain⟨sG,hp⟩:=hw
   obtain⟨e,he,a,rfl,ha⟩:=yO hts hx
   rw [List.getElem?_map] at he
   obtain⟨o,ho,rfl⟩:=Option.map_eq_some_iff.mp he
   have hst:=take_snoc ho
   cases o with
   | none =>
     have i0:jD [V.str ‹"end"›] ((0:Nat):Int)=some (.str ‹"end"›):=zV rfl
     refine⟨_,rfl,a,_,_,_,rfl,rfl,eY.of (sG _ _ ha),i0,rfl,_,rfl,qj (show ‹"end"› ≠ ‹"ask"› by symm) ⟨sG,?_⟩⟩
     rw [hst,List.filterMap_append]
     simpa using hp
   | some n =>
     have i0:jD [V.str ‹"ask"›,.str n,.int 0] ((0:Nat):Int)=some (.str ‹"ask"›):=zV rfl
     refine⟨_,rfl,a,_,_,_,rfl,rfl,eY.of (sG _ _ ha),i0,rfl,_,rfl,Jd rfl ⟨_,rfl,_,rfl,a,_,rfl,eY.of (sG _ _ ha),(by intro z;exact absurd z.1 (by show ¬ (1=0);decide)),fun p hp'=>?_⟩⟩
     have s1:=zG hp' (.tup (BZ [V.str ‹"ask"›,.str n,.int 0] (some 1) none))
     refine⟨sG.trans s1,?_⟩
     rw [hst,List.filterMap_append,List.map_append]
     exact xJ (zJ hp fun _ _=>mQ.kq (.of s1)) (.cons ⟨p,rfl,zB⟩ .nil)
 · obtain⟨sG,hp1⟩:=hw
   rw [lt,List.take_length] at hp1
   have s1:=zG hp (.lst zs)
   have sH:=sG.trans s1
   have hp2:Paired (mQ (upd G p (.lst zs))) zs ((ls.filterMap id).map fun n=>[V.str n,.int 0]):=zJ hp1 fun _ _=>mQ.kq (.of s1)
   have hz:(upd G p (.lst zs)) p=some (.lst zs):=zB
   dsimp only [bO,List.set_cons_succ,List.set_cons_zero]
   generalize upd G p (HO.lst zs)=G1 at sH hp2 hz ⊢
   have lz:=zX hp2
   rw [List.length_map] at lz
   have lf:(ls.filterMap id).length≤100:=Nat.le_trans (List.length_filterMap_le _ _) hl
   have hmem:∀ n∈ls.filterMap id,Et S n:=fun n hn=>by
     obtain⟨o,ho,e⟩:=List.mem_filterMap.mp hn
     have e:o=some n:=e
     subst e
     exact aa8 n ho
   generalize ls.filterMap id=nn at hp2 lz lf hmem q
   refine⟨_,rfl,p,rfl,⟨zs,cB.of hz⟩,?_⟩
   refine uf (xs:=zs) (yL (m:=1000) (by omega)) (fun i us G2=>aB G1 G2∧Paired (mQ G2) us ((nn.take i).map (Ri rg))) ⟨aB.refl _,.nil⟩ (fun i us G2 hw=>cB.of (hw.1 _ _ hz)) (fun i x us G2 hx hul hw=>?_) (fun us G2 hw p2 hp2'=>?_)
   · obtain⟨s2,hu⟩:=hw
     obtain⟨e,he,a,rfl,ha⟩:=yO hp2 hx
     rw [List.getElem?_map] at he
     obtain⟨n,hn,rfl⟩:=Option.map_eq_some_iff.mp he
     have hst:=take_snoc hn
     obtain⟨r,hr',rfl⟩:=hmem n (List.mem_of_getElem? hn)
     have sA:=sH.trans s2
     refine⟨a,_,_,rfl,eY.of (s2 _ _ ha),Xm ?_⟩
     refine⟨_,rfl,_,rfl,(by show 2≤sizeLine;decide),fun t1 ht1=>?_⟩
     have s3:=zG ht1 (.tup [.str r.nm,.int 0])
     have sB:=sA.trans s3
     refine⟨_,rfl,_,rfl,_,rfl,_,rfl,bx,kd,kvs,S,rg,r,rfl,sB _ _ hk,hK.kq (.of sB),hB.kq (.of sB),hr',fun t G4 s4 ht=>?_⟩
     refine⟨t1,t,_,_,rfl,rfl,eY.of (s4 _ _ zB),eY.of ht,by simp,(by show 4≤sizeLine;decide),(fun z=>by cases z),fun _ p3 hp3=>?_⟩
     have s5:=zG hp3 (.tup (Ri rg r.nm))
     refine⟨((s2.trans s3).trans s4).trans s5,?_⟩
     rw [hst,List.map_append]
     exact xJ (zJ hu fun _ _=>mQ.kq (.of ((s3.trans s4).trans s5))) (.cons ⟨p3,rfl,zB⟩ .nil)
   · obtain⟨s2,hu⟩:=hw
     rw [lz,List.take_length] at hu
     have s3:=zG hp2' (.lst us)
     exact q p2 us _ ((sH.trans s2).trans s3) (yK (sH.trans s2) hp2') zB (zJ hu fun _ _=>mQ.kq (.of s3))
end
def Zc:Str:=‹"only"›
def SS (N:Nm) (x:Kn) (y:Sy):List oZ:=[(Zc,[⟨N 0,x,none⟩,⟨N 1,.yn,some y⟩])]
def o5 (N:Nm) (s:qx):Rg:=fun z=>if z=N 0 then s else (0,1)
theorem LR {N:Nm}{s:qx}:o5 N s (N 0)=s:=if_pos rfl
theorem Zd {N:Nm}{s:qx} (h:N 0≠N 1):o5 N s (N 1)=(0,1):=if_neg (Ne.symm h)
theorem Jt {N:Nm}{x:Kn}{y:Sy}{r:Rw} (h:gU (SS N x y) r):r=⟨N 0,x,none⟩∨r=⟨N 1,.yn,some y⟩:=by
 obtain⟨sh,hs,hr⟩:=h
 rw [List.mem_singleton.mp hs] at hr
 simpa using hr
theorem aa9 {N:Nm}{x:Kn}{y:Sy}:gU (SS N x y) ⟨N 0,x,none⟩:=⟨_,List.mem_cons_self,List.mem_cons_self⟩
theorem aqw {N:Nm}{x:Kn}{y:Sy}:gU (SS N x y) ⟨N 1,.yn,some y⟩:=⟨_,List.mem_cons_self,List.mem_cons_of_mem _ List.mem_cons_self⟩
theorem Ze {N:Nm}{x:Kn}{y:Sy} (h:N 0≠N 1) (k:UG x y.1):GS N (SS N x y):=by
 refine⟨by show 1≤5;decide,fun s hs=>?_,fun r r' h1 h2 e=>?_,⟨_,aa9,rfl,fun r' y' h1 e=>?_⟩⟩
 · rw [List.mem_singleton.mp hs];show 2≤4;decide
 · rcases Jt h1 with rfl | rfl <;> rcases Jt h2 with rfl | rfl
   · rfl
   · exact absurd e h
   · exact absurd e (Ne.symm h)
   · rfl
 · rcases Jt h1 with rfl | rfl
   · cases e
   · cases e;exact k
theorem Ma {N:Nm}{x:Kn}{y:Sy} (h:N 0≠N 1) {H:Hp}{bx:Addr}{s:qx} (hb:ql H bx (N 0) s):XD H bx (SS N x y) (o5 N s):=by
 obtain⟨t,h1,h2⟩:=hb
 refine⟨_,h1,fun r hr=>?_⟩
 rw [Vr]
 rcases Jt hr with rfl | rfl
 · refine .inl ⟨t,if_pos rfl,?_⟩
   show H t=some (.tup [.int (o5 N s (N 0)).1,.int (o5 N s (N 0)).2])
   rw [LR];exact h2
 · exact .inr ⟨if_neg (fun z=>h (Sum.inr.inj (List.cons.inj z).1)),Zd h⟩
theorem Vs {N:Nm}{x:Kn}{y:Sy}{s:qx}:aaU (o5 N s) N (SS N x y):=by
 intro g hg sh hs j r y' hj e
 rw [List.mem_singleton.mp hs] at hj ⊢
 match j,hj with
 | 0,hj=>cases hj;cases e
 | 1,hj =>
   have:fJ (o5 N s) N g [⟨N 0,x,none⟩]=U7 g ⟨N 0,x,none⟩:=by
     show kY (o5 N s) N g ⟨N 0,x,none⟩=_
     unfold kY
     rw [if_neg (by rw [hg];decide)]
     rfl
   show N y'.1.i∈(fJ (o5 N s) N g [⟨N 0,x,none⟩]).l
   rw [this]
   have e:N y'.1.i=N 0:=by cases y'.1 <;> rfl
   rw [e]
   exact List.mem_append_right _ List.mem_cons_self
 | j+2,hj=>simp at hj
abbrev qm (y:Sy) (s:qx):Option Bool:=mK s y.1.h y.1.m
def wN (N:Nm) (y:Sy) (s:qx):Ct:=if qm y s=none then some (N 0,kJ y.1 s.1) else none
theorem aeQ {N:Nm}{y:Sy}{s:qx}:tri (o5 N s) N y=if y.2=true then (qm y s).map (!·) else qm y s:=by
 have e:Gr (o5 N s) N y.1=qm y s:=by
   unfold Gr
   rw [show N y.1.i=N 0 by cases y.1 <;> rfl,LR]
 unfold tri
 rw [e]
theorem Vt {N:Nm}{x:Kn}{y:Sy}{s:qx}:∃ l,Fin (o5 N s) N (SS N x y) 0 V4 ⟨l,rO N (qm y s) y.2,[],true,wN N y s⟩:=by
 have e1:kY (o5 N s) N V4 ⟨N 0,x,none⟩=⟨[N 0],[rK (N 0)],[],false,none⟩:=rfl
 have e2:fJ (o5 N s) N V4 [⟨N 0,x,none⟩,⟨N 1,.yn,some y⟩]=kY (o5 N s) N ⟨[N 0],[rK (N 0)],[],false,none⟩ ⟨N 1,.yn,some y⟩:=rfl
 have hst:∀ g:Gs,g.ov=false→kY (o5 N s) N g ⟨N 1,.yn,some y⟩=if decide (tri (o5 N s) N y=some true)=true then U7 (Ox (o5 N s) N g (some y)) ⟨N 1,.yn,some y⟩ else Ox (o5 N s) N g (some y):=fun g hg=>by
   unfold kY
   rw [if_neg (by rw [hg];decide)]
   rfl
 have hso:∀ g:Gs,Ox (o5 N s) N g (some y)=if tri (o5 N s) N y=none then ⟨g.l,g.L,g.D,true,some (N y.1.i,kJ y.1 (o5 N s (N y.1.i)).1)⟩ else g:=fun g=>rfl
 have hN:N y.1.i=N 0:=by cases y.1 <;> rfl
 have mk:∀ {l sf},Fin (o5 N s) N (SS N x y) 1 (fJ (o5 N s) N V4 [⟨N 0,x,none⟩,⟨N 1,.yn,some y⟩]) sf→sf=⟨l,rO N (qm y s) y.2,[],true,wN N y s⟩→∃ l,Fin (o5 N s) N (SS N x y) 0 V4 ⟨l,rO N (qm y s) y.2,[],true,wN N y s⟩:=fun {l sf} h e=>⟨l,e ▸ .step rfl rfl h⟩
 have ht:=aeQ (N:=N) (y:=y) (s:=s)
 unfold rO wN at *
 cases hk:qm y s with
 | none =>
   have ht:tri (o5 N s) N y=none:=by rw [ht,hk];cases y.2 <;> rfl
   rw [hk] at mk
   refine mk (l:=[N 0]) (.over ?_) ?_
   · rw [e2,hst _ rfl,hso,ht,if_neg (by decide),if_pos rfl]
   · rw [e2,hst _ rfl,hso,ht,if_neg (by decide),if_pos rfl,hN,LR]
     rw [if_neg (show ¬ (none=some (!y.2)) from nofun),if_pos rfl,if_pos rfl];rfl
 | some b =>
   rw [hk] at mk
   have nn:tri (o5 N s) N y≠none:=by rw [ht,hk];cases y.2 <;> exact nofun
   by_cases hb:b=!y.2
   · have ht:tri (o5 N s) N y=some true:=by rw [ht,hk,hb];cases y.2 <;> rfl
     refine mk (l:=[N 0,N 1]) (.done ?_ (by show 1≤1;decide)) ?_
     · rw [e2,hst _ rfl,hso,if_neg nn,ht,if_pos (by decide)];rfl
     · rw [e2,hst _ rfl,hso,if_neg nn,ht,if_pos (by decide)]
       rw [if_pos (show some b=some (!y.2) by rw [hb]),if_neg (show ¬ (some b=none) from nofun),if_neg (show ¬ (some b=none) from nofun)];rfl
   · have ht:tri (o5 N s) N y=some false:=by rw [ht,hk];revert hb;cases y.2 <;> cases b <;> simp
     refine mk (l:=[N 0]) (.done ?_ (by show 1≤1;decide)) ?_
     · rw [e2,hst _ rfl,hso,if_neg nn,ht,if_neg (by decide)]
     · rw [e2,hst _ rfl,hso,if_neg nn,ht,if_neg (by decide)]
       rw [if_neg (show ¬ (some b=some (!y.2)) from fun z=>hb (Option.some.inj z)),if_neg (show ¬ (some b=none) from nofun),if_neg (show ¬ (some b=none) from nofun)];rfl
def Zf (N:Nm) (kn:Option Bool) (dn:Bool):List (Option Str):=[some (N 0)]++(if kn=some (!dn) then [some (N 1)] else [])++(if kn=none then [] else [none])
theorem Vu (N:Nm) (kn:Option Bool) (dn:Bool):rO N kn dn=(Zf N kn dn).map aeN:=by
 unfold rO Zf
 rw [List.map_append,List.map_append]
 congr 1
 · congr 1
   split <;> rfl
 · split <;> rfl
theorem aba {N:Nm}{kn:Option Bool}{dn:Bool}{s:qx} (h:N 0≠N 1):Ey N kn dn s=((Zf N kn dn).filterMap id).map (Ri (o5 N s)):=by
 have e0:Ri (o5 N s) (N 0)=[.str (N 0),.int 0,.int s.1,.int s.2]:=by unfold Ri;rw [LR]
 have e1:Ri (o5 N s) (N 1)=[.str (N 1),.int 0,.int 0,.int 1]:=by unfold Ri;rw [Zd h]
 unfold Ey Zf
 rw [List.filterMap_append,List.filterMap_append,List.map_append,List.map_append]
 by_cases c:kn=some (!dn)
 · rw [if_pos c,if_pos c,if_neg (by rw [c];exact nofun)]
   show _=[Ri (o5 N s) (N 0)]++[Ri (o5 N s) (N 1)]++[]
   rw [e0,e1];rfl
 · rw [if_neg c,if_neg c]
   by_cases c2:kn=none
   · rw [if_pos c2];show _=[Ri (o5 N s) (N 0)]++[]++[];rw [e0];rfl
   · rw [if_neg c2];show _=[Ri (o5 N s) (N 0)]++[]++[];rw [e0];rfl
def BxL (H:Hp) (z:Str) (x:V) (s:qx):Prop:=∃ b,x=.ref b∧ql H b z s
theorem wM {H H':Hp} (f:aB H H') {z:Str}{bs:List V}{sp:List qx} (h:Paired (BxL H z) bs sp):Paired (BxL H' z) bs sp:=zJ h fun _ _ ⟨b,e,k⟩=>⟨b,e,k.kq (.of f)⟩
theorem Ju {H:Hp}{m:Addr}{o:HO}{l:List V} (hm:H m=some (.lst l)) {b:Addr}{z:Str}{s:qx} (h:ql H b z s):ql (upd H m o) b z s:=by
 obtain⟨t,h1,h2⟩:=h
 exact⟨t,by rw [zI (yJ h1 hm (by intro z;cases z))];exact h1,by rw [zI (yJ h2 hm (by intro z;cases z))];exact h2⟩
theorem Jv {H:Hp}{m:Addr}{o:HO}{l:List V} (hm:H m=some (.lst l)) {z:Str}{bs:List V}{sp:List qx} (h:Paired (BxL H z) bs sp):Paired (BxL (upd H m o) z) bs sp:=zJ h fun _ _ ⟨b,e,k⟩=>⟨b,e,Ju hm k⟩
theorem abb {i j l:Nat}{σ:St}{H:Hp}{cv:V}{k m:Int}{Q:Bool→Hp→Prop} (h1:σ[i]? = some (some cv)) (h2:σ[j]? = some (some (.int k))) (h3:σ[l]? = some (some (.int m))) (q:Q (!decide (cv=V.non) && decide (k<m)) H) :
   Qm (qb (Mq (fun x y H Q=>y=V.non∧Q (.bl (!decide (x=V.non))) H) (mX i) (tC .non))) (qb (Mq (O6 fun i j=>.bl (decide (i<j))) (mX j) (mX l))) σ H Q:=by
 refine⟨_,h1,rfl,_,rfl,?_⟩
 by_cases e:cv=V.non
 · rw [decide_eq_true e] at q ⊢
   exact aN q
 · rw [decide_eq_false e] at q ⊢
   exact bT ⟨_,h2,_,h3,_,_,rfl,rfl,_,rfl,q⟩
theorem ni2 {x a b:Addr} (h:x≠a) (k:x≠b):x∉[a,b]:=fun e=>by
 simp only [List.mem_cons,List.not_mem_nil,or_false] at e
 exact e.elim h k
def aeR (A:cT) (Pt:Addr):Sp:=fun vs H Q _=>∃ (N:Nm) (pa:Addr) (mo:Nat) (bx:Addr) (x:Kn) (y:Sy) (s:qx) (out:List Tr),vs=[.ref pa,.int (mo:Nat),.ref bx]∧Rb A N H pa (SS N x y)∧N 0≠N 1∧UG x y.1∧Q8 y.1.h∧s.1≤s.2∧ql H bx (N 0) s∧H Pt=some (.mW Fi)∧mo≤6∧NF N y.1 y.2 mo [s] [] 0 out ∧
 ∀ p H',aB H H'→fD (fun a=>H a=none) H' 4 (.ref p) (.lst out)→Q (.ref p) H'
section
variable {P:Program}{w:World}{K:W.Frag}{mg:Str→Option Value}{base:Heap}{A:cT}{Pt:Addr}
variable (B:BMain mg base) {c0:Addr} (hc:A.aW.code=.ref c0) (hh:W.codeHdIn K c0 Pt=true)
include B hc hh
theorem Vv (T:Txt K mg A):aV P w K mg base bR 14 A.Bw A.HW ["paper","most","fixed"] (aeR A Pt):=by
 have u5:=Ah (P:=P) (w:=w) (base:=base) T
 have p8:=Y8 (P:=P) (w:=w) (base:=base) B hc hh T
 have OD:=LQ (P:=P) (w:=w) (base:=base) T
 have Mf:=Js (P:=P) (w:=w) (base:=base) T
 refine T.W8.ok iZ (fun vs H Q E h=>?_) (fun cdv A0 outer s H vs Q E hr h=>?_)
 · obtain⟨N,pa,mo,bx,x,y,s,out,rfl,_⟩:=h
   rfl
 obtain⟨N,pa,mo,bx,x,y,s,out,rfl,hP,hN,hAt,hw,hle,hB,hT,hmo,hNF,q⟩:=h
 refine⟨_,(zC (zQ (i:=3) iZ.nd rfl ‹0› (zT u5 ‹hr› rfl T.Dh T.Dg T.Df .nil zN (zA (pv 0) zD)))
     (zC (zQ (i:=4) iZ.nd rfl ‹0› (yI (zA (oK (zL xO (pv 2) yM (zO _)) oN (xN vL (by rfl) T.N5 Bt.dict (zA (pv 2) zD))) zD)))
     (zC (zQ (i:=5) iZ.nd rfl ‹0› (yI zD))
     (zC (zQ (i:=6) iZ.nd rfl ‹0› zF)
     (zC (wY PassesOwn.never (zL m5 (zR zZ (by rfl) T.jf PySem.boot_len (zA (pv 5) zD)) (zR zZ (by rfl) T.jf PySem.boot_len (zA (pv 4) zD)) (zO _)) (zC (zQ (i:=7) iZ.nd rfl ‹0› (zW bQ (pv 4) (zR zZ (by rfl) T.jf PySem.boot_len (zA (pv 5) zD)) (fun _ _=>rfl)))
     (zC (zQ (i:=8) iZ.nd rfl ‹0› (zT p8 ‹hr› rfl T.uP T.uO T.uN .nil zN (zA (pv 0) (zA (pv 7) zD))))
     (zC (zQ (i:=9) iZ.nd rfl ‹0› (zW zY (pv 8) zF (fun _ _=>rfl)))
     (zE (yB (PW.pt (xK (zL vm (pv 9) yM (zO _)) (xC (zL m5 (pv 6) (pv 1) (zO _))))) (zC (ZF (i:=6) iZ.nd rfl ‹0› zF ZR)
     (zC (yE (kO PySem.F.plainAttrs_list PySem.F.slot_list_append PySem.F.type_list_append yR (pv 5) (zA (zU Hx (zU Hx (yA (zA zS zD)) (pv 9)) (yA (zA (zR zZ (by rfl) T.jf PySem.boot_len (zA (pv 4) zD)) (zA (zU yU (zR zZ (by rfl) T.jf PySem.boot_len (zA (pv 4) zD)) zF) zD)))) zD)))
     (zE (yE (kO PySem.F.plainAttrs_list PySem.F.slot_list_extend PySem.F.type_list_extend QB (pv 4) (zA (zT OD ‹hr› rfl T.Nt T.Nr T.Nq .nil zN (zA (pv 7) (zA (pv 3) (zA (zW zY (pv 9) zF (fun _ _=>rfl)) (zA (zW zY (pv 9) zF (fun _ _=>rfl)) (zA (zW zY (pv 9) zF (fun _ _=>rfl)) zD)))))) zD)))))) (zE (yE (kO PySem.F.plainAttrs_list PySem.F.slot_list_append PySem.F.type_list_append yR (pv 5) (zA (yA (zA zS (zA (zW zY (pv 8) zF (fun _ _=>rfl)) (zA (zW zY (pv 8) zF (fun _ _=>rfl)) (zA (zT Mf ‹hr› rfl T.Kp T.Ko T.Km .nil zN (zA (zW zY (pv 8) zF (fun _ _=>rfl)) (zA (pv 7) (zA (pv 3) zD)))) (zA (zW zY (pv 8) zF (fun _ _=>rfl)) zD)))))) zD))))))))))
     (zE (zK (pv 5)))))))),?_⟩
 have hGS:=Ze hN hAt
 refine⟨_,rfl,N,pa,SS N x y,rfl,hP,hGS,fun kd kvs H1 fk s1 hk hK=>?_⟩
 have hK:=hK.kq (.of s1)
 obtain⟨t0,hb0,ht0⟩:=hB
 dsimp only [bO,List.set_cons_succ,List.set_cons_zero]
 refine⟨_,rfl,rfl,_,rfl,aN ⟨_,rfl,bx,keyOf (N 0),.ref t0,rfl,s1 _ _ hb0,fun d hd=>?_⟩⟩
 have s2:=zG hd (.dT [(keyOf (N 0),.ref t0)])
 refine⟨(by show 1≤sizeLine;decide),fun bl YF=>?_⟩
 have s3:=zG YF (.lst [.ref d])
 refine⟨(by show 0≤sizeLine;decide),fun nl hnl=>?_⟩
 have s4:=zG hnl (.lst [])
 have s13:aB H1 (upd (upd H1 d (.dT [(keyOf (N 0),.ref t0)])) bl (.lst [.ref d])):=s2.trans s3
 have Yg:=s4 _ _ (show (upd (upd H1 d (.dT [(keyOf (N 0),.ref t0)])) bl (.lst [.ref d])) bl=some (.lst [.ref d]) from zB)
 have Jr:(upd (upd (upd H1 d (.dT [(keyOf (N 0),.ref t0)])) bl (.lst [.ref d])) nl (.lst [])) nl=some (.lst []):=zB
 have hd2:=(s3.trans s4) _ _ (show (upd H1 d (.dT [(keyOf (N 0),.ref t0)])) d=some (.dT [(keyOf (N 0),.ref t0)]) from zB)
 have sHc:=s13.trans s4
 have nb1:=yK s2 YF
 have nn1:=yK s13 hnl
 have nbn:bl≠nl:=zH (show (upd (upd H1 d (.dT [(keyOf (N 0),.ref t0)])) bl (.lst [.ref d])) bl=some _ from zB) hnl
 dsimp only [bO,List.set_cons_succ,List.set_cons_zero]
 generalize upd (upd (upd H1 d (HO.dT [(keyOf (N 0),.ref t0)])) bl (HO.lst [.ref d])) nl (HO.lst [])=Hc at sHc Yg Jr hd2 ⊢
 clear s2 s3 s4 s13
 have nF:¬ (fun a=>Hc a=none) nl:=fun z=>by rw [show Hc nl=none from z] at Jr;cases Jr
 have bF:¬ (fun a=>Hc a=none) bl:=fun z=>by rw [show Hc bl=none from z] at Yg;cases Yg
 have old:∀ {M:Hp},Ky [bl,nl] Hc M→aB H1 M:=fun {M} hK b o e=>hK.fr _ _ (sHc _ _ e) (ni2 (zH e nb1) (zH e nn1))
 refine⟨fun m σ H'=>∃ bs nx u7 u8 u9 sp nd,∃ k:Nat,σ=[some (.ref pa),some (.int (mo:Nat)),some (.ref bx),some (.ref kd),some (.ref bl),some (.ref nl),some (.int (k:Nat)),u7,u8,u9]∧Ky [bl,nl] Hc H'∧H' bl=some (.lst bs)∧Paired (BxL H' (N 0)) bs sp∧H' nl=some (.lst nx)∧Paired (fD (fun a=>Hc a=none) H' 3) nx nd∧nd.length≤sp.length∧sp.length≤1+2*k∧k≤mo∧(∀ s∈sp,s.1≤s.2)∧NF N y.1 y.2 mo sp nd k out∧m=2*(mo - k)+(sp.length - nd.length),
   ⟨_,[.ref d],[],_,_,_,[s],[],0,rfl,⟨Fr.of (aB.refl _),fun _ z=>z⟩,Yg,.cons ⟨d,rfl,t0,hd2,(s1.trans sHc) _ _ ht0⟩ .nil,Jr,.nil,Nat.zero_le _,Nat.le_refl _,Nat.zero_le _,fun s' h'=>by rw [List.mem_singleton.mp h'];exact hle,hNF,rfl⟩,?_⟩
 rintro m σ H2 ⟨bs,nx,u7,u8,u9,sp,nd,k,rfl,hKy,hb,hbs,hn,hnd,hl1,hl2,hk2,hall,hF,rfl⟩
 have ls:=zX hbs
 have ln:=zX hnd
 refine⟨_,rfl,nl,_,rfl,.inl (cB.of hn),_,rfl,bl,_,rfl,.inl (cB.of hb),_,_,rfl,rfl,_,rfl,lq (fun dd=>?_) (fun dd=>?_)⟩
 · have dd:((nx.length:Nat):Int)<(bs.length:Nat):=of_decide_eq_true dd
   have S2:=old hKy
   obtain⟨x0,hx⟩:∃ x,bs[nd.length]? = some x:=⟨_,List.getElem?_eq_getElem (by omega)⟩
   obtain⟨s,hss,b,rfl,hbx⟩:=yO hbs hx
   have Yc:=hall s (List.mem_of_getElem? hss)
   have lf:¬ (qm y s=none∧k<mo)→NF N y.1 y.2 mo sp (nd++[Ai N (qm y s) y.2 s]) k out:=fun c=>by
     cases hF with
     | done z=>omega
     | split z1 z2 z3 _=>rw [hss] at z1;cases z1;exact absurd ⟨z2,z3⟩ c
     | leaf z1 _ z3=>rw [hss] at z1;cases z1;exact z3
   have sf:qm y s=none→k<mo→NF N y.1 y.2 mo (sp++[(s.1,kJ y.1 s.1),(kJ y.1 s.1+1,s.2)]) (nd++[rP N (kJ y.1 s.1) sp.length]) (k+1) out:=fun c1 c2=>by
     cases hF with
     | done z=>omega
     | split z1 z2 z3 z4=>rw [hss] at z1;cases z1;exact z4
     | leaf z1 z2 _=>rw [hss] at z1;cases z1;exact absurd ⟨c1,c2⟩ z2
   have Yd:=fun z=>Vp (s:=s) hw Yc z
   obtain⟨l,hfin⟩:=Vt (N:=N) (x:=x) (y:=y) (s:=s)
   refine⟨fun σ' H'=>∃ bs nx u7 u8 u9 BV qt,∃ k':Nat,σ'=[some (.ref pa),some (.int (mo:Nat)),some (.ref bx),some (.ref kd),some (.ref bl),some (.ref nl),some (.int (k':Nat)),u7,u8,u9]∧Ky [bl,nl] Hc H'∧H' bl=some (.lst bs)∧Paired (BxL H' (N 0)) bs BV∧H' nl=some (.lst nx)∧Paired (fD (fun a=>Hc a=none) H' 3) nx qt∧qt.length≤BV.length∧BV.length≤1+2*k'∧k'≤mo∧(∀ s∈BV,s.1≤s.2)∧NF N y.1 y.2 mo BV qt k' out∧2*(mo - k')+(BV.length - qt.length)<2*(mo - k)+(sp.length - nd.length),fun σ' H' z=>?_,?_⟩
   · obtain⟨bs,nx,u7,u8,u9,BV,qt,k',h1,h2,h4,h5,h6,h7,h8,h9,h10,h11,h12,h13⟩:=z
     exact⟨_,h13,bs,nx,u7,u8,u9,BV,qt,k',h1,h2,h4,h5,h6,h7,h8,h9,h10,h11,h12,rfl⟩
   refine⟨_,rfl,_,rfl,nl,_,rfl,.inl (cB.of hn),bl,_,_,_,rfl,rfl,cB.of hb,(by rw [ln];exact zV hx),?_⟩
   dsimp only [bO,List.set_cons_succ,List.set_cons_zero]
   refine⟨_,rfl,_,rfl,N,pa,b,SS N x y,o5 N s,_,rfl,hP.kq (.of (s1.trans S2)),hGS,Ma hN hbx,(s1.trans S2) _ _ hT,Vs,hfin,fun x3 H3 s3 hR=>?_⟩
   obtain⟨p,lg,db,ts,cv,rfl,f1,f2,ld,hp,V5,hts,hdb,hcv⟩:=hR
   have hts:Paired (mQ H3) ts (rO N (qm y s) y.2):=hts
   have hdb:H3 db=some (.lst []):=hdb
   have hcv:Q6 H3 cv (wN N y s):=hcv
   have hp:H3 p=some (.tup [.bl (decide (wN N y s=none)),.ref lg,.ref db,cv]):=hp
   have K3:=hKy.same s3
   have hb3:=s3 _ _ hb
   have V6:=s3 _ _ hn
   have aeT:=wM s3 hbs
   have aeU:Paired (fD (fun a=>Hc a=none) H3 3) nx nd:=zJ hnd fun _ _ z=>fD.same s3 z
   have aeV:=hbx.kq (.of s3)
   have S3:=S2.trans s3
   have hk3:=S3 _ _ hk
   have hK3:=hK.kq (.of S3)
   have f1:=hKy.dm lg f1
   have f2:=hKy.dm db f2
   have hp':eY K H3 p _:=eY.of hp
   have i0:jD [V.bl (decide (wN N y s=none)),.ref lg,.ref db,cv] ((0:Nat):Int)=some (.bl (decide (wN N y s=none))):=zV rfl
   have i1:jD [V.bl (decide (wN N y s=none)),.ref lg,.ref db,cv] ((1:Nat):Int)=some (.ref lg):=zV rfl
   have i2:jD [V.bl (decide (wN N y s=none)),.ref lg,.ref db,cv] ((2:Nat):Int)=some (.ref db):=zV rfl
   have i3:jD [V.bl (decide (wN N y s=none)),.ref lg,.ref db,cv] ((3:Nat):Int)=some cv:=zV rfl
   clear hfin hbx hbs hnd hb hn s3 hP
   dsimp only [bO,List.set_cons_succ,List.set_cons_zero]
   refine⟨_,rfl,p,_,_,_,rfl,rfl,hp',i3,?_⟩
   dsimp only [bO,List.set_cons_succ,List.set_cons_zero]
   refine abb rfl rfl rfl ?_
   have hcn:cv=.non↔qm y s≠none:=by
     unfold wN at hcv
     constructor
     · intro e z
       rw [if_pos z] at hcv
       obtain⟨a,ea,_⟩:=(show mQ H3 cv _ from hcv)
       rw [e] at ea;cases ea
     · intro z
       rw [if_neg z] at hcv;exact hcv
   refine lq (fun c=>?_) (fun c=>?_)
   · have c:qm y s=none∧(k:Int)<mo:=by
       rw [Bool.and_eq_true,Bool.not_eq_true',decide_eq_false_iff_not] at c
       refine⟨?_,of_decide_eq_true c.2⟩
       cases e:qm y s with
       | none=>rfl
       | some v=>exact absurd (hcn.mpr (by rw [e];exact nofun)) c.1
     have hF2:=sf c.1 (by omega)
     have hc2:=Yd c.1
     unfold wN at hcv
     rw [if_pos c.1] at hcv
     obtain⟨ca,rfl,hca⟩:=(show mQ H3 cv _ from hcv)
     generalize kJ y.1 s.1=cut at hF2 hc2 hca
     have hca:H3 ca=some (.tup [.str (N 0),.int 0,.int cut]):=hca
     have c0':jD [V.str (N 0),.int 0,.int cut] ((0:Nat):Int)=some (.str (N 0)):=zV rfl
     have c1':jD [V.str (N 0),.int 0,.int cut] ((1:Nat):Int)=some (.int 0):=zV rfl
     have c2':jD [V.str (N 0),.int 0,.int cut] ((2:Nat):Int)=some (.int cut):=zV rfl
     refine⟨_,rfl,_,_,rfl,rfl,?_⟩
     dsimp only [bO,List.set_cons_succ,List.set_cons_zero]
     refine⟨_,rfl,.inl ⟨rfl,_,cB.of V6⟩,(by show 1≤sizeLine;decide),fun t1 ht1=>?_⟩
     have a1:=zG ht1 (.tup [.str ‹"split"›])
     refine⟨_,rfl,t1,ca,_,_,rfl,rfl,eY.of zB,eY.of (a1 _ _ hca),by simp,(by show 4≤sizeLine;decide),(fun z=>by cases z),fun _ t2 Q4=>?_⟩
     have a2:=zG Q4 (.tup ([V.str ‹"split"›]++[V.str (N 0),.int 0,.int cut]))
     have a12:=a1.trans a2
     refine⟨_,rfl,bl,_,rfl,.inl (cB.of (a12 _ _ hb3)),_,rfl,bl,_,rfl,.inl (cB.of (a12 _ _ hb3)),_,_,rfl,rfl,(by show 2≤sizeLine;decide),fun t3 ht3=>?_⟩
     have a3:=zG ht3 (.tup [.int (bs.length:Nat),.int ((bs.length:Nat)+1:Int)])
     refine⟨t2,t3,_,_,rfl,rfl,eY.of (a3 _ _ zB),eY.of zB,by simp,(by show 6≤sizeLine;decide),(fun z=>by cases z),fun _ t4 ht4=>?_⟩
     have a4:=zG ht4 (.tup ([V.str ‹"split"›]++[V.str (N 0),.int 0,.int cut]++[.int (bs.length:Nat),.int ((bs.length:Nat)+1:Int)]))
     have a14:=(a12.trans a3).trans a4
     have hT4:(upd (upd (upd (upd H3 t1 (.tup [.str ‹"split"›])) t2 (.tup ([V.str ‹"split"›]++[V.str (N 0),.int 0,.int cut]))) t3 (.tup [.int (bs.length:Nat),.int ((bs.length:Nat)+1:Int)])) t4 (.tup ([V.str ‹"split"›]++[V.str (N 0),.int 0,.int cut]++[.int (bs.length:Nat),.int ((bs.length:Nat)+1:Int)]))) t4=some (.tup [.str ‹"split"›,.str (N 0),.int 0,.int cut,.int (bs.length:Nat),.int ((bs.length:Nat)+1:Int)]):=zB
     refine⟨nl,_,_,rfl,rfl,a14 _ _ V6,yL (m:=1000) (by omega),?_⟩
     generalize upd (upd (upd (upd H3 t1 (HO.tup [.str ‹"split"›])) t2 (HO.tup ([V.str ‹"split"›]++[V.str (N 0),.int 0,.int cut]))) t3 (HO.tup [.int (bs.length:Nat),.int ((bs.length:Nat)+1:Int)])) t4 (HO.tup ([V.str ‹"split"›]++[V.str (N 0),.int 0,.int cut]++[.int (bs.length:Nat),.int ((bs.length:Nat)+1:Int)]))=H4 at a14 hT4 ⊢
     have tr:fD (fun a=>Hc a=none) H4 3 (.ref t4) (rP N cut bs.length):=⟨t4,_,rfl,hT4,(by show 6≤1000;decide),jW Zb⟩
     have nd5:=Jo (a14 _ _ V6) nF (zJ aeU fun _ _ z=>fD.same a14 z) tr
     have K5:=(K3.same a14).upd (m:=nl) (List.mem_cons_of_mem _ (List.mem_singleton.mpr rfl)) (.lst (nx++[.ref t4]))
     have Zg:(upd H4 nl (.lst (nx++[.ref t4]))) bl=some (.lst bs):=by rw [zI nbn];exact a14 _ _ hb3
     have hn5:(upd H4 nl (.lst (nx++[.ref t4]))) nl=some (.lst (nx++[.ref t4])):=zB
     have aeW:=Jv (o:=.lst (nx++[.ref t4])) (a14 _ _ V6) (wM a14 aeT)
     have abd:=Ju (o:=.lst (nx++[.ref t4])) (a14 _ _ V6) (aeV.kq (.of a14))
     have aeX:(upd H4 nl (.lst (nx++[.ref t4]))) ca=some (.tup [.str (N 0),.int 0,.int cut]):=by rw [zI (yJ hca V6 (by intro z;cases z))];exact a14 _ _ hca
     generalize upd H4 nl (HO.lst (nx++[.ref t4]))=H5 at nd5 K5 Zg hn5 aeW abd aeX ⊢
     have S5:=old K5
     have hca':eY K H5 ca _:=eY.of aeX
     refine⟨_,rfl,.inl ⟨rfl,_,cB.of Zg⟩,_,rfl,_,rfl,_,rfl,ca,_,_,_,rfl,rfl,hca',c0',_,rfl,ca,_,_,_,rfl,rfl,hca',c1',_,rfl,ca,_,_,_,rfl,rfl,hca',c2',b,kd,kvs,SS N x y,o5 N s,⟨N 0,x,none⟩,s,cut,rfl,S5 _ _ hk,hK.kq (.of S5),Ma hN abd,aa9,LR,abd,fun p2 b1 b2 H6 s6 hp2 hb1 hb2=>?_⟩
     have V7:=s6 _ _ Zg
     refine⟨bl,p2,_,_,rfl,rfl,V7,hp2,yL (m:=1000) (by show bs.length+2≤1000;omega),?_⟩
     refine⟨bs++[.ref b1,.ref b2],nx++[.ref t4],_,_,_,sp++[(s.1,cut),(cut+1,s.2)],nd++[rP N cut sp.length],k+1,rfl,(K5.same s6).upd List.mem_cons_self _,zB,xJ (Jv V7 (wM s6 aeW)) (.cons ⟨b1,rfl,Ju V7 hb1⟩ (.cons ⟨b2,rfl,Ju V7 hb2⟩ .nil)),by rw [zI (Ne.symm nbn)];exact s6 _ _ hn5,?_,?_,?_,by omega,?_,hF2,?_⟩
     · rw [← ls];exact zJ nd5 fun _ _ z=>fD.upd V7 bF (fD.same s6 z)
     · simp only [List.length_append,List.length_cons,List.length_nil];omega
     · simp only [List.length_append,List.length_cons,List.length_nil];omega
     · intro s' h'
       rcases List.mem_append.mp h' with h' | h'
       · exact hall s' h'
       · simp only [List.mem_cons,List.not_mem_nil,or_false] at h'
         rcases h' with rfl | rfl
         · exact hc2.1
         · exact hc2.2
     · simp only [List.length_append,List.length_cons,List.length_nil];omega
   · have c:¬ (qm y s=none∧k<mo):=fun z=>c (by
       rw [decide_eq_false (fun e=>hcn.mp e z.1),decide_eq_true (show (k:Int)<mo by omega)];rfl)
     have aa8:∀ n,some n∈Zf N (qm y s) y.2→Et (SS N x y) n:=fun n hn=>by
       unfold Zf at hn
       rcases List.mem_append.mp hn with hn | hn
       · rcases List.mem_append.mp hn with hn | hn
         · cases List.mem_singleton.mp hn;exact⟨_,aa9,rfl⟩
         · split at hn
           · cases List.mem_singleton.mp hn;exact⟨_,aqw,rfl⟩
           · cases hn
       · split at hn
         · cases hn
         · cases List.mem_singleton.mp hn
     have lle:(Zf N (qm y s) y.2).length≤100:=by
       have:=(Jm N (qm y s) y.2).1
       rw [Vu,List.length_map] at this
       omega
     refine⟨_,rfl,.inl ⟨rfl,_,cB.of V6⟩,_,rfl,p,_,_,_,rfl,rfl,hp',i0,_,rfl,p,_,_,_,rfl,rfl,hp',i1,_,rfl,p,_,_,_,rfl,rfl,hp',i1,_,rfl,_,rfl,lg,ts,Zf N (qm y s) y.2,b,kd,kvs,SS N x y,o5 N s,rfl,V5,(by rw [← Vu];exact hts),aa8,lle,hk3,hK3,Ma hN aeV,fun rp us H4 s4 nrp hrp hus=>?_⟩
     rw [← aba hN] at hus
     refine⟨_,rfl,p,_,_,_,rfl,rfl,s4.vI hp',i2,(by show 5≤sizeLine;decide),fun tp htp=>?_⟩
     have s5:=zG htp (.tup [.str ‹"leaf"›,.bl (decide (wN N y s=none)),.ref lg,.ref rp,.ref db])
     have V8:=s4.trans s5
     obtain⟨l1,l2⟩:=Jm N (qm y s) y.2
     obtain⟨r1,r2⟩:=Vn N (qm y s) y.2 s
     have eb:decide (wN N y s=none)=!decide (qm y s=none):=by
       unfold wN
       cases qm y s with
       | none=>rfl
       | some _=>rfl
     have tr:fD (fun a=>Hc a=none) (upd H4 tp (.tup [.str ‹"leaf"›,.bl (decide (wN N y s=none)),.ref lg,.ref rp,.ref db])) 3 (.ref tp) (Ai N (qm y s) y.2 s):=by
       refine⟨tp,_,rfl,zB,(by show 5≤1000;decide),.cons ⟨rfl,trivial⟩ (.cons ⟨by rw [eb],trivial⟩ (.cons ⟨lg,ts,rfl,V8 _ _ V5,by rw [zX hts];omega,wL (zJ hts fun _ _=>mQ.kq (.of V8)) l2,f1⟩ (.cons ⟨rp,us,rfl,s5 _ _ hrp,by rw [zX hus];omega,wL (zJ hus fun _ _=>mQ.kq (.of s5)) r2,K3.dm rp nrp⟩ (.cons ⟨db,[],rfl,V8 _ _ hdb,Nat.zero_le _,.nil,f2⟩ .nil))))⟩
     have nd5:=Jo (V8 _ _ V6) nF (zJ aeU fun _ _ z=>fD.same V8 z) tr
     refine⟨nl,_,_,rfl,rfl,V8 _ _ V6,yL (m:=1000) (by omega),?_⟩
     refine⟨bs,_,_,_,_,sp,nd++[Ai N (qm y s) y.2 s],k,rfl,(K3.same V8).upd (List.mem_cons_of_mem _ (List.mem_singleton.mpr rfl)) _,by rw [zI nbn];exact V8 _ _ hb3,Jv (V8 _ _ V6) (wM V8 aeT),zB,nd5,?_,hl2,hk2,hall,lf c,?_⟩
     · simp only [List.length_append,List.length_cons,List.length_nil];omega
     · simp only [List.length_append,List.length_cons,List.length_nil];omega
 · have dd:¬ (((nx.length:Nat):Int)<(bs.length:Nat)):=fun z=>dd (decide_eq_true z)
   cases hF with
   | done _ =>
     refine⟨_,rfl,q nl H2 (s1.trans (old hKy)) ⟨nl,nx,rfl,hn,by omega,zJ hnd fun _ _ z=>fD.weak (fun a za=>yK (s1.trans sHc) za) z,yK s1 nn1⟩⟩
   | split z1 _ _ _=>have:=(List.getElem?_eq_some_iff.mp z1).1;omega
   | leaf z1 _ _=>have:=(List.getElem?_eq_some_iff.mp z1).1;omega
end
def Vw (K:W.Frag) (Pt:Addr):Sp:=fun vs H Q _=>∃ (a:Addr) (ns:List Int),vs=[.ref a]∧cB K H a (ns.map V.int)∧ns.length≤63∧(∀ n∈ns,ib n≤1048576)∧H Pt=some (.mW Fi)∧∀ H',Q (.bl true) H'
structure Ev (K:W.Frag) (Pt a:Addr) (ns:List Int) (nl:Addr) (N:Nm) (H:Hp):Prop where
 A:cB K H a (ns.map V.int)
 N:NmR H nl N
 T:H Pt=some (.mW Fi)
theorem Ev.same {K:W.Frag}{Pt a:Addr}{ns:List Int}{nl:Addr}{N:Nm}{H H':Hp} (h:Ev K Pt a ns nl N H) (s:aB H H'):Ev K Pt a ns nl N H':=⟨s.seq h.A,s _ _ h.N,s _ _ h.T⟩
theorem mQ.same {H H':Hp} (s:aB H H') {x:V}{t:List V} (h:mQ H x t):mQ H' x t:=h.kq (.of s)
section
variable {P:Program}{w:World}{K:W.Frag}{mg:Str→Option Value}{base:Heap}{A:cT}{Pt:Addr}
theorem abe (T:Txt K mg A) (B:BMain mg base) {c0:Addr} (hc:A.aW.code=.ref c0) (hh:W.codeHdIn K c0 Pt=true):aV P w K mg base bR 40 A.TY A.T3 ["_law_script"] (Vw K Pt):=by
 have du:=jU (P:=P) (w:=w) (base:=base) T
 have EY:=Le (P:=P) (w:=w) (base:=base) T
 have OJ:=Lz (P:=P) (w:=w) (base:=base) T
 have Mg:=Jl (P:=P) (w:=w) (base:=base) T
 have O1:=LC (P:=P) (w:=w) (base:=base) T
 have Jw:=Gy (P:=P) (w:=w) (base:=base) T
 have Jx:=Gx (P:=P) (w:=w) (base:=base) T
 have rR:=Lh (P:=P) (w:=w) (base:=base) T
 have jB:=Ag (P:=P) (w:=w) (base:=base) T
 have yu:=Gn (P:=P) (w:=w) (base:=base) T
 have yw:=Gp (P:=P) (w:=w) (base:=base) T
 have rQ:=wK (P:=P) (w:=w) (base:=base) T
 have yt:=Ex (P:=P) (w:=w) (base:=base) T
 have vd:=Aj (P:=P) (w:=w) (base:=base) T
 have Mh:=Jq (P:=P) (w:=w) (base:=base) T
 have iD:=Ly (P:=P) (w:=w) (base:=base) T 5
 have p8:=Y8 (P:=P) (w:=w) (base:=base) B hc hh T
 have Qe:=Vv (P:=P) (w:=w) (base:=base) B hc hh T
 refine T.YQ.ok fB (fun vs H Q E h=>?_) (fun cdv A0 outer s H vs Q E hr h=>?_)
 · obtain⟨a,ns,rfl,_⟩:=h
   rfl
 obtain⟨a,ns,rfl,hA,hl,hb,hT,q⟩:=h
 refine⟨_,(zC (zQ (i:=1) fB.nd rfl ‹0› (yI (zA (zT EY ‹hr› rfl T.Dz T.Dy T.Dw .nil zN (zA (pv 0) (zA zF zD))) (zA (zT EY ‹hr› rfl T.Dz T.Dy T.Dw .nil zN (zA (pv 0) (zA zF zD))) zD))))
     (zC (zQ (i:=2) fB.nd rfl ‹0› (zT OJ ‹hr› rfl T.NB T.Nz T.Ny .nil zN (zA (zT du ‹hr› rfl T.gh T.gf T.gb .nil zN (zA (pv 0) (zA zF zD))) zD)))
     (zC (Rq (zT Mg ‹hr› rfl T.Kz T.Kw T.Kv .nil zN (zA (pv 0) (zA (pv 2) zD))) (Ht rfl (jN (yW (i:=3) fB.nd rfl ‹0›) (jN (yW (i:=4) fB.nd rfl ‹0›) Bq))))
     (zC (zQ (i:=5) fB.nd rfl ‹0› (zT O1 ‹hr› rfl T.NT T.NQ T.NP .nil zN (zA (pv 0) (zA (pv 2) (zA (pv 3) (zA (pv 4) zD))))))
     (zC (zQ (i:=6) fB.nd rfl ‹0› (zT Jw ‹hr› rfl T.Ip T.Io T.Im .nil zN (zA (pv 0) (zA (zW bQ (pv 1) zF (fun _ _=>rfl)) (zA (pv 2) (zA (pv 5) zD))))))
     (zC (zQ (i:=7) fB.nd rfl ‹0› (xG yS (zU yT (zT du ‹hr› rfl T.gh T.gf T.gb .nil zN (zA (pv 0) (zA zF zD))) zF) zF (zO _)))
     (zC (zQ (i:=8) fB.nd rfl ‹0› (yI (zA (yY T.Uk rR ‹hr› rfl T.YS T.Ar T.Av zN (zA (zW bQ (pv 1) zF (fun _ _=>rfl)) (zA (zT Jx ‹hr› rfl T.Ik T.Ij T.Ii .nil zN (zA (pv 2) zD)) zD))) (zA (yY T.Uk rR ‹hr› rfl T.YS T.De .nil zN (zA (zW bQ (pv 1) zF (fun _ _=>rfl)) (zA (JG T.KY jB ‹hr› rfl T.Qc T.oW .nil zN) (zA (pv 6) zD)))) zD))))
     (zC (zQ (i:=9) fB.nd rfl ‹0› (yY T.Um yw ‹hr› rfl T.Xf T.xx .nil zN (zA zS (zA (yI (zA (yY T.Ul yu ‹hr› rfl T.Xg T.xr .nil zN (zA zS (zA yM (zA (pv 8) (zA (yI zD) zD))))) zD)) (zA (yI zD) zD)))))
     (zC (zQ (i:=10) fB.nd rfl ‹0› (zT rQ ‹hr› rfl T.zy T.zx T.zu .nil zN (zA (zW zY (pv 5) zF (fun _ _=>rfl)) (zA (pv 3) (zA (pv 4) (zA (zW zY (pv 5) zF (fun _ _=>rfl)) zD))))))
     (zC (zQ (i:=11) fB.nd rfl ‹0› (zT vd ‹hr› rfl T.DN T.DK T.DG .nil zN (zA (pv 1) (zA (pv 10) (zA (pv 7) (zA (pv 3) (zA (pv 4) zD)))))))
     (zC (zQ (i:=12) fB.nd rfl ‹0› yM)
     (zC (yB (zL xO (pv 10) yM (zO _)) (zE (zQ (i:=12) fB.nd rfl ‹0› (yA (zA (zW bQ (pv 1) zF (fun _ _=>rfl)) (zA zF (zA (zT yt ‹hr› rfl T.Hh T.Hg T.Hf .nil zN (zA (zW zY (pv 5) zF (fun _ _=>rfl)) (zA (pv 3) (zA (zW zY (pv 5) zF (fun _ _=>rfl)) zD)))) zD)))))) zP)
     (zC (zQ (i:=13) fB.nd rfl ‹0› (CN (xM hr) (Ce (yA (zA (zW bQ (pv 1) zF (fun _ _=>rfl)) (zA zF zD))) (yA (zA (pv 3) (zA (pv 4) zD))) HF) rfl rfl (by simp) (by decide)))
     (zC (zQ (i:=14) fB.nd rfl ‹0› (zT p8 ‹hr› rfl T.uP T.uO T.uN .nil zN (zA (pv 9) (zA (pv 13) zD))))
     (zC (yB (PW.pt (vh (jY (yN (zT iD ‹hr› rfl T.jT T.jR T.jQ .nil zN (zA (pv 14) (zA (yA (zA (xG vm (pv 10) yM (zO _)) (zA (zW zY (pv 11) zF (fun _ _=>rfl)) (zA (yI zD) (zA (pv 12) zD))))) zD))))) (o7 (zL (PL (adO hr)) (pv 13) (CN (xM hr) (Ce (yA (zA (zW bQ (pv 1) zF (fun _ _=>rfl)) (zA zF zD))) (yA (zA (pv 3) (zA (pv 4) zD))) HF) rfl rfl (by simp) (by decide)) (zO _))))) (zE (zK xR)) zP)
     (zC (zQ (i:=15) fB.nd rfl ‹0› (zU yT (zT du ‹hr› rfl T.gh T.gf T.gb .nil zN (zA (pv 0) (zA zF zD))) zF))
     (zC (zQ (i:=16) fB.nd rfl ‹0› (zT Mh ‹hr› rfl T.KJ T.KH T.KD .nil zN (zA (pv 1) (zA (pv 5) (zA (pv 7) (zA (yA (zA (pv 3) (zA (pv 4) zD))) (zA (pv 15) zD)))))))
     (zC (zQ (i:=17) fB.nd rfl ‹0› (zT Qe ‹hr› rfl T.P0 T.PX T.PQ .nil zN (zA (pv 9) (zA (pv 15) (zA (pv 13) zD)))))
     (zC (yB (PW.pt (vh (jY (yN (zT iD ‹hr› rfl T.jT T.jR T.jQ .nil zN (zA (pv 17) (zA (pv 16) zD))))) (o7 (zL (PL (adO hr)) (pv 13) (CN (xM hr) (Ce (yA (zA (zW bQ (pv 1) zF (fun _ _=>rfl)) (zA zF zD))) (yA (zA (pv 3) (zA (pv 4) zD))) HF) rfl rfl (by simp) (by decide)) (zO _))))) (zE (zK xR)) zP)
     (zC (yE (kO PySem.F.plainAttrs_list PySem.F.slot_list_append PySem.F.type_list_append yR (pv 17) (zA zS zD)))
     (zC (yE (kO PySem.F.plainAttrs_list PySem.F.slot_list_append PySem.F.type_list_append yR (zW zY (pv 14) zF (fun _ _=>rfl)) (zA zS zD)))
     (zE (zK (wU (zT iD ‹hr› rfl T.jT T.jR T.jQ .nil zN (zA (zT Qe ‹hr› rfl T.P0 T.PX T.PQ .nil zN (zA (pv 9) (zA (pv 15) (zA (pv 13) zD)))) (zA (pv 16) zD))) (BK (zT iD ‹hr› rfl T.jT T.jR T.jQ .nil zN (zA (zW zY (zT p8 ‹hr› rfl T.uP T.uO T.uN .nil zN (zA (pv 9) (zA (pv 13) zD))) zF (fun _ _=>rfl)) (zA (zW zY (pv 11) zF (fun _ _=>rfl)) zD)))))))))))))))))))))))))))),?_⟩
 generalize h0:L2.start _ [V.ref a]=σ0
 have h0:σ0=[some (.ref a),none,none,none,none,none,none,none,none,none,none,none,none,none,none,none,none,none]:=by rw [← h0];rfl
 subst h0
 refine⟨_,rfl,a,ns,0,rfl,hA,by decide,_,rfl,a,ns,1,rfl,hA,by decide,(by show 2≤sizeLine;decide),fun nl hnl=>?_⟩
 obtain⟨N,hN⟩:∃ N:Nm,N=YW (eV ns 0):=⟨_,rfl⟩
 have s1:=zG hnl (.lst [.str (N 0),.str (N 1)])
 have E1:Ev K Pt a ns nl N (upd H nl (.lst [.str (N 0),.str (N 1)])):=⟨s1.seq hA,zB,s1 _ _ hT⟩
 have Vx:N 0≠N 1:=fun e=>by rw [hN] at e;exact absurd (aas e) (by decide)
 rw [show YW (eV ns 0) 0=N 0 by rw [hN],show YW (eV ns 0) 1=N 1 by rw [hN]]
 dsimp only [bO,List.set_cons_succ,List.set_cons_zero]
 generalize upd H nl (HO.lst [.str (N 0),.str (N 1)])=H1 at s1 E1 ⊢
 clear hnl s1 hA hT
 have n0:jD [V.str (N 0),.str (N 1)] ((0:Nat):Int)=some (.str (N 0)):=zV rfl
 have n1:jD [V.str (N 0),.str (N 1)] ((1:Nat):Int)=some (.str (N 1)):=zV rfl
 have hc1:=Xn ns 1
 refine⟨_,rfl,a,ns,1,rfl,E1.A,eV ns 1,rfl,hc1.1,hc1.2,fun x v H2 hx s2 hv=>?_⟩
 dsimp only [bO,List.set_cons_succ,List.set_cons_zero]
 have E2:=E1.same s2
 refine⟨_,rfl,_,rfl,a,ns,v,x,rfl,E2.A,hv,hx,fun rt lo hi H3 s3 hle hrt=>⟨rt,_,rfl,eY.of hrt,rfl,_,_,rfl,_,_,rfl,rfl,?_⟩⟩
 dsimp only [bO,List.set_cons_succ,List.set_cons_zero]
 have E3:=E2.same s3
 have hv3:=mQ.same s3 hv
 refine⟨_,rfl,_,rfl,_,rfl,_,rfl,a,ns,v,x,lo,hi,rfl,E3.A,hv3,hx,hle,fun ta h m H4 s4 hm hta=>?_⟩
 dsimp only [bO,List.set_cons_succ,List.set_cons_zero]
 have E4:=E3.same s4
 have hv4:=mQ.same s4 hv3
 refine⟨_,rfl,_,rfl,nl,_,_,_,rfl,rfl,cB.of E4.N,n0,_,rfl,_,rfl,a,ns,N,v,x,ta,h,m,rfl,E4.A,hv4,hx,hta,hm,fun yv H5 s5 hy=>?_⟩
 dsimp only [bO,List.set_cons_succ,List.set_cons_zero]
 have hAt:=aeI hx hm
 have hw:=hm.1
 obtain⟨e1,e2⟩:=aqq hm
 clear hm
 generalize Q9 x h m=t at hAt e1 e2 hy
 subst e1 e2
 have E5:=E4.same s5
 have hv5:=mQ.same s5 hv4
 have aeY:=s5 _ _ hta
 clear hta hv4 hv3 hv E4 E3 E2 E1 s5 s4 s3 s2 hrt
 refine⟨_,rfl,a,ns,5,rfl,E5.A,_,_,rfl,rfl,(by show (0:Int)<2;decide),rfl,?_⟩
 rw [deI]
 generalize decide (eV ns 5 % 2=1)=dn at hy ⊢
 obtain⟨y,hyd⟩:∃ y:Sy,y=(t,dn):=⟨_,rfl⟩
 rw [← hyd] at hy
 have ht:t=y.1:=by rw [hyd]
 have hd:dn=y.2:=by rw [hyd]
 subst ht hd
 clear hyd
 dsimp only [bO,List.set_cons_succ,List.set_cons_zero]
 refine⟨_,rfl,nl,_,_,_,rfl,rfl,cB.of E5.N,n0,_,rfl,v,x,rfl,hv5,hx,fun k0 H6 s6 hk0=>?_⟩
 intro a0 Zh na0 aqB _
 refine⟨a0,Zh,_,_,_,rfl,zB,rfl,?_⟩
 rw [yD]
 have s7:=yC na0 aqB (Gm A Zh (.str (N 0)) (.ref k0) .non)
 have A0:(upd (upd H6 Zh (.own a0)) a0 (Gm A Zh (.str (N 0)) (.ref k0) .non)) a0=some (Gm A Zh (.str (N 0)) (.ref k0) .non):=zB
 generalize upd (upd H6 Zh (.own a0)) a0 (Gm A Zh (.str (N 0)) (.ref k0) .non)=H7 at s7 A0 ⊢
 have s57:=s6.trans s7
 refine⟨_,rfl,nl,_,_,_,rfl,rfl,cB.of ((E5.same s57).N),n1,?_⟩
 intro k1 Yh nk1 aqD _
 refine⟨k1,Yh,rfl,zB,rfl,?_⟩
 rw [yD]
 have s8:=yC nk1 aqD (.ins A.bI Yh [("low",.int 0),("high",.int 1)])
 have K1:(upd (upd H7 Yh (.own k1)) k1 (.ins A.bI Yh [("low",.int 0),("high",.int 1)])) k1=some (.ins A.bI Yh [("low",.int 0),("high",.int 1)]):=zB
 generalize upd (upd H7 Yh (.own k1)) k1 (HO.ins A.bI Yh [("low",.int 0),("high",.int 1)])=H8 at s8 K1 ⊢
 refine⟨_,rfl,?_⟩
 intro a1 Zi na1 aqE _
 refine⟨a1,Zi,_,_,_,rfl,zB,rfl,?_⟩
 rw [yD]
 have s9:=yC na1 aqE (Gm A Zi (.str (N 1)) (.ref k1) yv)
 have A1:(upd (upd H8 Zi (.own a1)) a1 (Gm A Zi (.str (N 1)) (.ref k1) yv)) a1=some (Gm A Zi (.str (N 1)) (.ref k1) yv):=zB
 generalize upd (upd H8 Zi (.own a1)) a1 (Gm A Zi (.str (N 1)) (.ref k1) yv)=H9 at s9 A1 ⊢
 have s79:=s8.trans s9
 have s59:=s57.trans s79
 have Zj:Paired (RwR A N H9) [.ref a0,.ref a1] [⟨N 0,x,none⟩,⟨N 1,.yn,some y⟩]:=.cons ⟨a0,Zh,k0,_,rfl,s79 _ _ A0,hk0.kq (.of (s7.trans s79)),rfl⟩ (.cons ⟨a1,Zi,k1,_,rfl,A1,⟨Yh,Yh,s9 _ _ K1,fun ws e=>by cases e⟩,hy.kq (.of s59)⟩ .nil)
 have E9:=E5.same s59
 have aeZ:=s59 _ _ aeY
 clear E5 aeY hv5 s57 s6 s7 s8 s9 s79 s59 A0 A1 K1 hk0 hy
 refine⟨(by show 2≤sizeLine;decide),fun rl hrl=>?_⟩
 have z1:=zG hrl (.lst [.ref a0,.ref a1])
 have RL:(upd H9 rl (.lst [.ref a0,.ref a1])) rl=some (.lst [.ref a0,.ref a1]):=zB
 dsimp only [bO,List.set_cons_succ,List.set_cons_zero]
 generalize upd H9 rl (HO.lst [.ref a0,.ref a1])=H10 at z1 RL ⊢
 refine⟨_,rfl,(by show 0≤sizeLine;decide),fun ew hew=>?_⟩
 have z2:=zG hew (.lst [])
 have EW:(upd H10 ew (.lst [])) ew=some (.lst []):=zB
 generalize upd H10 ew (HO.lst [])=XR at z2 EW ⊢
 intro sh dsh nsh aqG _
 have z3:=yC nsh aqG (.ins A.jH dsh [])
 refine⟨sh,dsh,_,_,rl,ew,_,_,rfl,zB,z3 _ _ (z2 _ _ RL),z3 _ _ EW,fun q1 q2 H12 _ _ _ F12 hsh hq1 hq2=>⟨rfl,?_⟩⟩
 have z4:aB XR H12:=Jk z3 nsh F12
 have Yi:=(z1.trans z2).trans z4
 have SH:Xv A N H12 (.ref sh) (Zc,[⟨N 0,x,none⟩,⟨N 1,.yn,some y⟩]):=⟨sh,dsh,q1,q2,_,rfl,hsh,hq1,hq2,zJ Zj fun _ _=>RwR.kq (.of Yi)⟩
 refine⟨(by show 1≤sizeLine;decide),fun ls hls=>?_⟩
 have z5:=zG hls (.lst [.ref sh])
 have LS:(upd H12 ls (.lst [.ref sh])) ls=some (.lst [.ref sh]):=zB
 generalize upd H12 ls (HO.lst [.ref sh])=Vd at z5 LS ⊢
 refine⟨(by show 0≤sizeLine;decide),fun lt hlt=>?_⟩
 have z6:=zG hlt (.lst [])
 have LT:(upd Vd lt (.lst [])) lt=some (.lst []):=zB
 generalize upd Vd lt (HO.lst [])=H14 at z6 LT ⊢
 intro pa dpa npa aqI _
 have z7:=yC npa aqI (.ins A.gW dpa [])
 refine⟨pa,dpa,_,ls,lt,_,rfl,zB,z7 _ _ (z6 _ _ LS),z7 _ _ LT,fun q7 q8 H15 F15 hpa hq7 hq8=>⟨rfl,?_⟩⟩
 have z8:aB H14 H15:=Jk z7 npa F15
 have Qf:=(z5.trans z6).trans z8
 have PA:Rb A N H15 pa (SS N x y):=⟨dpa,_,q7,q8,_,hpa,hq7,hq8,.cons (SH.kq (.of Qf)) .nil⟩
 have E15:=(E9.same Yi).same Qf
 have Qg:=(Yi.trans Qf) _ _ aeZ
 clear E9 aeZ z1 z2 z3 z4 z5 z6 z7 z8 Yi Qf SH LS LT RL EW Zj hsh hq1 hq2 hpa hq7 hq8
 dsimp only [bO,List.set_cons_succ,List.set_cons_zero]
 have j0:jD [V.str y.1.h,.int y.1.m] ((0:Nat):Int)=some (.str y.1.h):=zV rfl
 have j1:jD [V.str y.1.h,.int y.1.m] ((1:Nat):Int)=some (.int y.1.m):=zV rfl
 refine⟨_,rfl,ta,_,_,_,rfl,rfl,eY.of Qg,j0,_,rfl,_,rfl,_,rfl,ta,_,_,_,rfl,rfl,eY.of Qg,j1,y.1.h,lo,hi,y.1.m,rfl,hw,hle,?_⟩
 obtain⟨sn,hsn⟩:∃ sn:qx,sn=(lo,hi):=⟨_,rfl⟩
 have e1:lo=sn.1:=by rw [hsn]
 have e2:hi=sn.2:=by rw [hsn]
 subst e1 e2
 clear hsn
 dsimp only [bO,List.set_cons_succ,List.set_cons_zero]
 rw [show mK (sn.1,sn.2) y.1.h y.1.m=qm y sn from rfl]
 refine⟨_,rfl,_,rfl,_,rfl,_,rfl,_,rfl,nl,N,qm y sn,y.2,sn,rfl,E15.N,fun lx H16 s16 hlf=>?_⟩
 obtain⟨lp,lxs,rfl,hlp,_,hpr⟩:=hlf
 dsimp only [bO,List.set_cons_succ,List.set_cons_zero]
 have ae1:=PA.kq (.of s16)
 have E16:=E15.same s16
 have Qh:=s16 _ _ Qg
 obtain⟨x1,x2,x3,x4,x5,rfl,hx3⟩:∃ x1 x2 x3 x4 x5,lxs=[x1,x2,x3,x4,x5]∧TrR H16 2 x3 (.lst ((rO N (qm y sn) y.2).map tpT)):=by
   cases hpr with
   | cons p1 hpr=>cases hpr with
     | cons p2 hpr=>cases hpr with
       | cons p3 hpr=>cases hpr with
         | cons p4 hpr=>cases hpr with
           | cons p5 hpr=>cases hpr;exact⟨_,_,_,_,_,rfl,fD.r p3⟩
 have l2:jD [x1,x2,x3,x4,x5] ((2:Nat):Int)=some x3:=zV rfl
 clear PA E15 Qg s16 hpr
 have c3:∀ {G:Hp}{cv:V},Q6 G cv (wN N y sn)→TrR G 2 cv (ctT (wN N y sn)):=fun {G cv} hcv=>by
   cases hct:wN N y sn with
   | none=>rw [hct] at hcv;exact⟨hcv,trivial⟩
   | some q =>
     rw [hct] at hcv
     obtain⟨a,rfl,ha⟩:=(show mQ G cv _ from hcv)
     exact⟨a,_,rfl,ha,(by show 3≤1000;decide),.cons ⟨rfl,trivial⟩ (.cons ⟨rfl,trivial⟩ (.cons ⟨rfl,trivial⟩ .nil))⟩
 refine p6 (fun σ G=>σ=[some (.ref a),some (.ref nl),some v,some (.int sn.1),some (.int sn.2),some (.ref ta),some yv,some (.bl y.2),some (.ref rl),some (.ref pa),some (tv (qm y sn)),some (.ref lp),some .non,none,none,none,none,none]∧H16=G) ?_ (fun M hM=>hM _ _ ⟨rfl,rfl⟩)
 rintro σ G ⟨rfl,rfl⟩
 refine p6 (fun σ H17=>∃ cv,σ=[some (.ref a),some (.ref nl),some v,some (.int sn.1),some (.int sn.2),some (.ref ta),some yv,some (.bl y.2),some (.ref rl),some (.ref pa),some (tv (qm y sn)),some (.ref lp),some cv,none,none,none,none,none]∧aB H16 H17∧Q6 H17 cv (wN N y sn)) ?_ ?_
 case refine_2 =>
   intro M hM
   unfold wN at hM
   generalize qm y sn=kn at hM ⊢
   cases kn with
   | some b=>exact⟨_,rfl,rfl,_,rfl,aN (hM _ _ ⟨.non,rfl,aB.refl _,rfl⟩)⟩
   | none=>exact⟨_,rfl,rfl,_,rfl,bT ⟨_,rfl,nl,_,_,_,rfl,rfl,cB.of E16.N,n0,_,rfl,ta,_,_,_,rfl,rfl,eY.of Qh,j0,_,rfl,_,rfl,ta,_,_,_,rfl,rfl,eY.of Qh,j1,y.1,sn.1,rfl,hw,(by show 3≤sizeLine;decide),fun ca hca=>hM _ _ ⟨.ref ca,rfl,zG hca _,ca,rfl,zB⟩⟩⟩
 rintro σ H17 ⟨cv,rfl,s17,hcv⟩
 have E17:=E16.same s17
 have ae2:=ae1.kq (.of s17)
 have Zk:=s17 _ _ Qh
 have Zm:=s17 _ _ hlp
 have ae3:=fD.same s17 hx3
 clear ae1 E16 Qh hlp hx3 s17
 intro bx hbx
 have b1:=zG hbx (.dT [])
 have BX:(upd H17 bx (.dT [])) bx=some (.dT []):=zB
 generalize upd H17 bx (HO.dT [])=H18 at b1 BX ⊢
 refine⟨_,rfl,nl,_,_,_,rfl,rfl,cB.of (E17.same b1).N,n0,(by show 2≤sizeLine;decide),fun kt hkt=>?_⟩
 have b2:=zG hkt (.tup [.str (N 0),.int 0])
 refine⟨_,rfl,_,rfl,(by show 2≤sizeLine;decide),fun vt hvt=>?_⟩
 have b3:=zG hvt (.tup [.int sn.1,.int sn.2])
 have KT:=b3 _ _ (show (upd H18 kt (.tup [.str (N 0),.int 0])) kt=some (.tup [.str (N 0),.int 0]) from zB)
 have VT:(upd (upd H18 kt (.tup [.str (N 0),.int 0])) vt (.tup [.int sn.1,.int sn.2])) vt=some (.tup [.int sn.1,.int sn.2]):=zB
 have b23:=b2.trans b3
 generalize upd (upd H18 kt (HO.tup [.str (N 0),.int 0])) vt (HO.tup [.int sn.1,.int sn.2])=H19 at b23 KT VT ⊢
 refine⟨b23 _ _ BX,[(keyOf (N 0),.ref vt)],.cons ⟨rfl,kt,rfl,KT⟩ .nil,(by show 1≤15;decide),?_⟩
 have keep:aB H17 (upd H19 bx (.dT (QR [(keyOf (N 0),.ref vt)]))):=fun b o e=>by
   rw [zI (zH e hbx)];exact (b1.trans b23) _ _ e
 have BX2:(upd H19 bx (.dT (QR [(keyOf (N 0),.ref vt)]))) bx=some (.dT [(keyOf (N 0),.ref vt)]):=zB
 have VT2:(upd H19 bx (.dT (QR [(keyOf (N 0),.ref vt)]))) vt=some (.tup [.int sn.1,.int sn.2]):=by rw [zI (yJ VT (b23 _ _ BX) (by intro z;cases z))];exact VT
 generalize upd H19 bx (HO.dT (QR [(keyOf (N 0),.ref vt)]))=Hb at keep BX2 VT2 ⊢
 dsimp only [bO,List.set_cons_succ,List.set_cons_zero]
 have Eb:=E17.same keep
 have PAb:=ae2.kq (.of keep)
 have htab:=keep _ _ Zk
 have ae5:=keep _ _ Zm
 have hxb:=fD.same keep ae3
 have aqL:=hcv.kq (.of keep)
 have hBx:ql Hb bx (N 0) sn:=⟨vt,BX2,VT2⟩
 clear E17 ae2 Zk Zm ae3 hcv keep b1 b2 b3 b23 BX KT VT
 have hGS:=Ze Vx hAt
 obtain⟨gl,hfin⟩:=Vt (N:=N) (x:=x) (y:=y) (s:=sn)
 obtain⟨ll,lf⟩:=Jm N (qm y sn) y.2
 refine⟨_,rfl,_,rfl,N,pa,bx,SS N x y,o5 N sn,_,rfl,PAb,hGS,Ma Vx hBx,Eb.T,Vs,hfin,fun fx H20 s20 hR=>?_⟩
 have hRt:=XS hR (by show (rO N (qm y sn) y.2).length≤1000;omega) (Nat.zero_le _) lf
 obtain⟨fp,Yj,fdb,fts,fcv,rfl,f1,f2,ld,hfp,aqM,aqN,aBD,aBE⟩:=hR
 have hfl:fts.length≤3:=by rw [zX aqN];exact ll
 have hfp:H20 fp=some (.tup [.bl (decide (wN N y sn=none)),.ref Yj,.ref fdb,fcv]):=hfp
 dsimp only [bO,List.set_cons_succ,List.set_cons_zero]
 refine⟨_,rfl,_,rfl,rfl,_,rfl,lp,_,_,_,rfl,rfl,eY.of (s20 _ _ ae5),l2,(by show 0≤sizeLine;decide),fun el hel=>?_⟩
 have c1:=zG hel (.lst [])
 refine⟨_,rfl,(by show 4≤sizeLine;decide),fun dp hdp=>?_⟩
 have c2:=zG hdp (.tup [.bl (!decide (tv (qm y sn)=.non)),x3,.ref el,cv])
 have c12:=c1.trans c2
 have eb:(!decide (tv (qm y sn)=V.non))=decide (wN N y sn=none):=by
   unfold wN
   cases qm y sn with
   | none=>rfl
   | some _=>rfl
 have S22:=s20.trans c12
 refine⟨.ref fp,.ref dp,_,3,rfl,by decide,fD.r (fD.same c12 hRt),⟨dp,_,rfl,zB,(by show 4≤1000;decide),.cons ⟨by rw [eb],trivial⟩ (.cons (fD.same S22 hxb) (.cons ⟨el,[],rfl,c2 _ _ zB,Nat.zero_le _,.nil,trivial⟩ (.cons (c3 (aqL.kq (.of S22))) .nil)))⟩,fun H23 s23=>⟨_,rfl,aN ?_⟩⟩
 have Sb3:=S22.trans s23
 have E23:=Eb.same Sb3
 have Zn:=(c12.trans s23) _ _ hfp
 have Vy:=(c12.trans s23) _ _ aqM
 refine⟨_,rfl,fun Yk ae6=>?_⟩
 have p1a:=zG ae6 (.dT [])
 have BYa:(upd H23 Yk (.dT [])) Yk=some (.dT []):=zB
 generalize upd H23 Yk (HO.dT [])=G1a at p1a BYa ⊢
 refine⟨_,rfl,nl,_,_,_,rfl,rfl,cB.of (E23.same p1a).N,n0,(by show 2≤sizeLine;decide),fun kta aqT=>?_⟩
 have p2a:=zG aqT (.tup [.str (N 0),.int 0])
 refine⟨_,rfl,_,rfl,(by show 2≤sizeLine;decide),fun Vz aqU=>?_⟩
 have p3a:=zG aqU (.tup [.int sn.1,.int sn.2])
 have KTa:=p3a _ _ (show (upd G1a kta (.tup [.str (N 0),.int 0])) kta=some (.tup [.str (N 0),.int 0]) from zB)
 have VTa:(upd (upd G1a kta (.tup [.str (N 0),.int 0])) Vz (.tup [.int sn.1,.int sn.2])) Vz=some (.tup [.int sn.1,.int sn.2]):=zB
 have VB:=p2a.trans p3a
 generalize upd (upd G1a kta (HO.tup [.str (N 0),.int 0])) Vz (HO.tup [.int sn.1,.int sn.2])=G2a at VB KTa VTa ⊢
 refine⟨VB _ _ BYa,[(keyOf (N 0),.ref Vz)],.cons ⟨rfl,kta,rfl,KTa⟩ .nil,(by show 1≤15;decide),?_⟩
 have kpa:aB H23 (upd G2a Yk (.dT (QR [(keyOf (N 0),.ref Vz)]))):=fun b o e=>by
   rw [zI (zH e ae6)];exact (p1a.trans VB) _ _ e
 have BZa:(upd G2a Yk (.dT (QR [(keyOf (N 0),.ref Vz)]))) Yk=some (.dT [(keyOf (N 0),.ref Vz)]):=zB
 have VZa:(upd G2a Yk (.dT (QR [(keyOf (N 0),.ref Vz)]))) Vz=some (.tup [.int sn.1,.int sn.2]):=by rw [zI (yJ VTa (VB _ _ BYa) (by intro z;cases z))];exact VTa
 generalize upd G2a Yk (HO.dT (QR [(keyOf (N 0),.ref Vz)]))=G3a at kpa BZa VZa ⊢
 refine⟨bx,Yk,keyOf (N 0),vt,Vz,sn.1,sn.2,rfl,rfl,kpa _ _ (Sb3 _ _ BX2),BZa,kpa _ _ (Sb3 _ _ VT2),VZa,_,rfl,aN ?_⟩
 have E24:=E23.same kpa
 have Sb4:=Sb3.trans kpa
 have ae7:=kpa _ _ Zn
 have VD:=kpa _ _ Vy
 clear E23 Zn Vy c1 c2 c12 p1a p2a p3a VB
 have m0:=Int.emod_nonneg (eV ns 6) (b:=7) (by decide)
 have m1:=Int.emod_lt_of_pos (eV ns 6) (b:=7) (by decide)
 refine⟨_,rfl,a,ns,6,rfl,E24.A,_,_,rfl,rfl,(by show (0:Int)<7;decide),?_⟩
 obtain⟨mo,hmo,abf⟩:∃ mo:Nat,eV ns 6 % 7=(mo:Int)∧mo≤6:=⟨(eV ns 6 % 7).toNat,by omega,by omega⟩
 dsimp only [bO,List.set_cons_succ,List.set_cons_zero]
 rw [hmo]
 obtain⟨out,hNF⟩:=Vo N y.1 y.2 mo _ [sn] [] 0 (Nat.le_refl _)
 refine⟨_,rfl,_,rfl,_,rfl,_,rfl,_,rfl,(by show 2≤sizeLine;decide),fun st hst=>?_⟩
 have d1:=zG hst (.tup [.int sn.1,.int sn.2])
 have ST:(upd G3a st (.tup [.int sn.1,.int sn.2])) st=some (.tup [.int sn.1,.int sn.2]):=zB
 generalize upd G3a st (HO.tup [.int sn.1,.int sn.2])=H24 at d1 ST ⊢
 have Sb5:=Sb4.trans d1
 refine⟨_,rfl,nl,N,ta,y.1,y.2,st,sn,mo,out,rfl,(E24.same d1).N,Sb5 _ _ htab,hw,ST,hle,abf,hNF,fun dq H25 XM ae8=>?_⟩
 dsimp only [bO,List.set_cons_succ,List.set_cons_zero]
 have Sb6:=Sb5.trans XM
 have E25:=(E24.same d1).same XM
 have ae9:=(d1.trans XM) _ _ ae7
 have abg:=(d1.trans XM) _ _ VD
 have nFl:¬ (fun b=>H24 b=none) Yj:=fun z=>by
   have z:H24 Yj=none:=z
   rw [d1 _ _ VD] at z;cases z
 refine⟨_,rfl,_,rfl,_,rfl,N,pa,mo,bx,x,y,sn,out,rfl,PAb.kq (.of Sb6),Vx,hAt,hw,hle,hBx.kq (.of Sb6),E25.T,abf,hNF,fun np H26 s26 afa=>?_⟩
 dsimp only [bO,List.set_cons_succ,List.set_cons_zero]
 refine⟨_,rfl,_,rfl,.ref np,.ref dq,.lst out,4,rfl,by decide,fD.r afa,fD.r (fD.same s26 ae8),fun H27 s27=>⟨_,rfl,aN ?_⟩⟩
 obtain⟨np',nx,e,hnp,aBI,_,fnp⟩:=afa
 cases e
 have Sb7:=(Sb6.trans s26).trans s27
 have E27:=(E25.same s26).same s27
 refine⟨_,rfl,fun Yl afb=>?_⟩
 have p1c:=zG afb (.dT [])
 have BYc:(upd H27 Yl (.dT [])) Yl=some (.dT []):=zB
 generalize upd H27 Yl (HO.dT [])=G1c at p1c BYc ⊢
 refine⟨_,rfl,nl,_,_,_,rfl,rfl,cB.of (E27.same p1c).N,n0,(by show 2≤sizeLine;decide),fun ktc aq2=>?_⟩
 have p2c:=zG aq2 (.tup [.str (N 0),.int 0])
 refine⟨_,rfl,_,rfl,(by show 2≤sizeLine;decide),fun VF aq3=>?_⟩
 have p3c:=zG aq3 (.tup [.int sn.1,.int sn.2])
 have KTc:=p3c _ _ (show (upd G1c ktc (.tup [.str (N 0),.int 0])) ktc=some (.tup [.str (N 0),.int 0]) from zB)
 have VTc:(upd (upd G1c ktc (.tup [.str (N 0),.int 0])) VF (.tup [.int sn.1,.int sn.2])) VF=some (.tup [.int sn.1,.int sn.2]):=zB
 have Ym:=p2c.trans p3c
 generalize upd (upd G1c ktc (HO.tup [.str (N 0),.int 0])) VF (HO.tup [.int sn.1,.int sn.2])=G2c at Ym KTc VTc ⊢
 refine⟨Ym _ _ BYc,[(keyOf (N 0),.ref VF)],.cons ⟨rfl,ktc,rfl,KTc⟩ .nil,(by show 1≤15;decide),?_⟩
 have kpc:aB H27 (upd G2c Yl (.dT (QR [(keyOf (N 0),.ref VF)]))):=fun b o e=>by
   rw [zI (zH e afb)];exact (p1c.trans Ym) _ _ e
 have BZc:(upd G2c Yl (.dT (QR [(keyOf (N 0),.ref VF)]))) Yl=some (.dT [(keyOf (N 0),.ref VF)]):=zB
 have VZc:(upd G2c Yl (.dT (QR [(keyOf (N 0),.ref VF)]))) VF=some (.tup [.int sn.1,.int sn.2]):=by rw [zI (yJ VTc (Ym _ _ BYc) (by intro z;cases z))];exact VTc
 generalize upd G2c Yl (HO.dT (QR [(keyOf (N 0),.ref VF)]))=G3c at kpc BZc VZc ⊢
 refine⟨bx,Yl,keyOf (N 0),vt,VF,sn.1,sn.2,rfl,rfl,kpc _ _ (Sb7 _ _ BX2),BZc,kpc _ _ (Sb7 _ _ VT2),VZc,_,rfl,aN ?_⟩
 have afc:=(s26.trans s27).trans kpc
 have Zo:=(s27.trans kpc) _ _ hnp
 refine⟨_,rfl,.inl ⟨rfl,_,cB.of Zo⟩,np,_,_,rfl,rfl,Zo,yL (m:=2000) (by omega),?_⟩
 have Mi:aB H25 (upd G3c np (.lst (nx++[.str ‹"more"›]))):=rM afc fnp _
 generalize upd G3c np (HO.lst (nx++[.str ‹"more"›]))=H29 at Mi ⊢
 have afd:=Mi _ _ ae9
 have O2:=Mi _ _ abg
 have fi1:jD [V.bl (decide (wN N y sn=none)),.ref Yj,.ref fdb,fcv] ((1:Nat):Int)=some (.ref Yj):=zV rfl
 refine⟨_,rfl,fp,_,_,_,rfl,rfl,eY.of afd,fi1,.inl ⟨rfl,_,cB.of O2⟩,Yj,_,_,rfl,rfl,O2,yL (m:=2000) (by omega),?_⟩
 have Sb9:aB Hb (upd H29 Yj (.lst (fts++[.str ‹"more"›]))):=rM (Sb6.trans Mi) f1 _
 have Zq:fD (fun b=>H24 b=none) (upd H29 Yj (.lst (fts++[.str ‹"more"›]))) 4 (.ref dq) (.lst out):=fD.upd O2 nFl (fD.same Mi ae8)
 generalize upd H29 Yj (HO.lst (fts++[.str ‹"more"›]))=H30 at Sb9 Zq ⊢
 refine⟨_,rfl,_,rfl,_,rfl,N,pa,mo,bx,x,y,sn,out,rfl,PAb.kq (.of Sb9),Vx,hAt,hw,hle,hBx.kq (.of Sb9),Sb9 _ _ Eb.T,abf,hNF,fun np2 H31 s31 afg=>?_⟩
 refine⟨_,rfl,.ref np2,.ref dq,.lst out,4,rfl,by decide,fD.r afg,fD.r (fD.same s31 Zq),fun H32 s32=>⟨_,rfl,bT ?_⟩⟩
 have VG:=(Sb9.trans s31).trans s32
 refine⟨_,rfl,_,rfl,N,pa,bx,SS N x y,o5 N sn,_,rfl,PAb.kq (.of VG),hGS,Ma Vx (hBx.kq (.of VG)),VG _ _ Eb.T,Vs,hfin,fun fx2 H33 s33 hR2=>?_⟩
 obtain⟨fp2,VH,afh,aq6,afi,rfl,g1,g2,ld2,abh,afj,Zr,ayH,ayI⟩:=hR2
 have abh:H33 fp2=some (.tup [.bl (decide (wN N y sn=none)),.ref VH,.ref afh,afi]):=abh
 have fi2:jD [V.bl (decide (wN N y sn=none)),.ref VH,.ref afh,afi] ((1:Nat):Int)=some (.ref VH):=zV rfl
 refine⟨fp2,_,_,_,rfl,rfl,eY.of abh,fi2,_,rfl,lp,_,_,_,rfl,rfl,eY.of ((VG.trans s33) _ _ ae5),l2,?_⟩
 refine⟨.ref VH,x3,.lst ((rO N (qm y sn) y.2).map tpT),2,rfl,by decide,⟨VH,aq6,rfl,afj,by rw [zX Zr];exact Nat.le_trans ll (by decide),wL Zr lf,trivial⟩,fD.same (VG.trans s33) hxb,fun H' _=>q H'⟩
end
end j4
set_option maxHeartbeats 4000000
namespace j4
open PySem L2
theorem O3 {us:List Value}{n:Nat} (h:us.length=n+1):∃ a r,us=a::r∧r.length=n:=by
 cases us with
 | nil=>cases h
 | cons a r=>exact⟨a,r,rfl,Nat.succ.inj h⟩
theorem el0 {us:List Value} (h:us.length=0):us=[]:=List.eq_nil_of_length_eq_zero h
@[elab_as_elim] theorem V9 {motive:List Value→Prop} (us:List Value) (hl:us.length=1) (h:∀ a,motive [a]):motive us:=by
 obtain⟨a,r0,e0,h0⟩:=O3 hl
 rw [e0,el0 h0]
 exact h a
@[elab_as_elim] theorem wO {motive:List Value→Prop} (us:List Value) (hl:us.length=2) (h:∀ a b,motive [a,b]):motive us:=by
 obtain⟨a,r0,e0,h0⟩:=O3 hl
 obtain⟨b,r1,e1,h1⟩:=O3 h0
 rw [e0,e1,el0 h1]
 exact h a b
@[elab_as_elim] theorem Mj {motive:List Value→Prop} (us:List Value) (hl:us.length=3) (h:∀ a b c,motive [a,b,c]):motive us:=by
 obtain⟨a,r0,e0,h0⟩:=O3 hl
 obtain⟨b,r1,e1,h1⟩:=O3 h0
 obtain⟨c,r2,e2,h2⟩:=O3 h1
 rw [e0,e1,e2,el0 h2]
 exact h a b c
@[elab_as_elim] theorem VJ {motive:List Value→Prop} (us:List Value) (hl:us.length=4) (h:∀ a b c d,motive [a,b,c,d]):motive us:=by
 obtain⟨a,r0,e0,h0⟩:=O3 hl
 obtain⟨b,r1,e1,h1⟩:=O3 h0
 obtain⟨c,r2,e2,h2⟩:=O3 h1
 obtain⟨d,r3,e3,h3⟩:=O3 h2
 rw [e0,e1,e2,e3,el0 h3]
 exact h a b c d
@[elab_as_elim] theorem el5 {motive:List Value→Prop} (us:List Value) (hl:us.length=5) (h:∀ a b c d e,motive [a,b,c,d,e]):motive us:=by
 obtain⟨a,r0,e0,h0⟩:=O3 hl
 obtain⟨b,r1,e1,h1⟩:=O3 h0
 obtain⟨c,r2,e2,h2⟩:=O3 h1
 obtain⟨d,r3,e3,h3⟩:=O3 h2
 obtain⟨e,r4,e4,h4⟩:=O3 h3
 rw [e0,e1,e2,e3,e4,el0 h4]
 exact h a b c d e
theorem abi {K:W.Frag}{h:Heap}{mg:Str→Option Value} (X:K.In h) (G:h.Ns mainGlobals mg)
{f0 f1 f2 f3 f4 f5 f6 f7 f8 f9 dT9 f10 f11 abj f12 f13 f14 f15 f16 f17 f18 f19 f20 f21 f22 f23 f24 f25 f26 f27 Wa f29 abk f30 f31 f32 f33 f34 f35 f36 f37 f38 f39 f40 f41 f42 f43 f44 f45 f46 f47 f48 f49 f50 f51 f52 f53 f54 f55 abl f56 f57 f58 f59 f60 f61 f62 f63 f64 f65 f66 f67 f68:Addr}{od0 an0 od1 an1 od2 an2 od3 an3 od4 an4 od5 an5 od6 an6 od7 an7 od8 an8 od9 an9 dD9 aq8 afn aq9 afo ara arb afp arc afq ard afr arf afs arh aft ari afu arj afv ark afw arl afx arn afy aro afz arp afA arq afB ars afC art afD aru afE arv afF arw afG arx arz afH arA afI arB afJ arC afK arD afL arE afM arF afN arG afO arH afP arI afQ arJ afR arK afS arL afT arM afU arN afV arO afW arP afX arQ afY arR afZ arS af0 arT af1 arU af2 arV af3 arW af4 arX af5 arY af6 arZ ar0 af7 ar3 af8 ar4 af9 ar5 aga ar6 agb ar7 agc ar8 agd ar9 age asa agf asb agg asd agh ase agi asf agj:Option Addr}{sl0 sl1 sl2 sl3 sl4 sl5 sl6 sl7 sl8 sl9 dS9 ash asi asj asl asm asn aso asp asq asr ass asu asv asw asx asy asz asA asB asC asD asF asG asH asI asJ asK asL asM asN asO asQ asR asS asT asU asV asW asY asZ as3 as4 as5 as6 as7 as8 as9 ata atb atc atd ate atf atg ath ati atj atk atl atm atn ato:Array (Option Value)}{oc0 kV0 dc0 pm0 cd0 ct0 oc1 kV1 dc1 pm1 cd1 ct1 oc2 kV2 dc2 pm2 cd2 ct2 oc3 kV3 dc3 pm3 cd3 ct3 oc4 kV4 dc4 pm4 cd4 ct4 oc5 kV5 dc5 pm5 cd5 ct5 oc6 kV6 dc6 pm6 cd6 ct6 oc7 kV7 dc7 pm7 cd7 ct7 oc8 kV8 dc8 pm8 cd8 ct8 oc9 kV9 dc9 pm9 cd9 ct9 atB agk agl agm abm agn atD ago agp agq abn agr atE ags agt agu abo agv atF agw agx agy abp agz atG agA agB agC abq agD atH agE agF agG abr agH atJ agI agJ agK abt agL atL agM agN agO abu agP atM agQ agR agS abv agT atN agU agV agW abw agX atP agY agZ ag0 abx ag1 atQ ag2 ag3 ag4 aby ag5 atR ag6 ag7 ag8 abz ag9 atU aha ahb ahc abA ahd atV ahe ahf ahg abB ahh atX ahi ahj ahk abC ahl atY ahm ahn aho abD ahp atZ ahq ahr ahs abE aht at3 ahu ahv ahw abF ahx at4 ahy ahz ahA abG ahB at5 ahC ahD ahE abH ahF at6 ahG ahH ahI abI ahJ at7 ahK ahL ahM abJ ahN at8 ahO ahP ahQ abK ahR at9 ahS ahT ahU abL ahV aua ahW ahX ahY abM ahZ aub ah0 ah1 ah2 abN ah3 auc ah4 ah5 ah6 abO ah7 aud ah8 ah9 aia abP aib aue aic aid aie abQ aif auf aih aii aij abR aik auh ail aim ain abS aio aui aip aiq air abT ais auj ait aiu aiv abU aiw auk aix aiy aiz abV aiA aul aiB aiC aiD abW aiE aum aiF aiG aiH abX aiI aun aiJ aiK aiL abY aiM auo aiN aiO aiP abZ aiQ aup aiR aiS aiT Yn aiU auq aiV aiW aiX ab0 aiY aur aiZ ai0 ai1 ab1 ai2 aus ai3 ai4 ai5 ab2 ai6 aut ai7 ai8 ai9 ab3 aja auu ajb ajc ajd ab4 aje auv ajf ajg ajh ab5 aji auw ajj ajk ajl ab6 ajm auy ajn ajo ajp ab7 ajq auz ajr ajs ajt ab8 aju auA ajv ajw ajx ab9 ajy auB ajz ajA ajB aca ajC auC ajD ajE ajF acb ajG auD ajH ajI ajJ acd ajK auE ajL ajM ajN ace ajO auF ajP ajQ ajR acf ajS auG ajT ajU ajV acg ajW auH ajX ajY ajZ ach aj0 auI aj1 aj2 aj3 aci aj4 auJ aj5 aj6 aj7 acj aj8:Value}{dN9 auK auL auM:Nat}{Zt VL:Tok}
 {ga0:Addr}{go0:Value}{gd0:Option Addr}{gn0:Nat}{ge0:Array DictEntry}{gs0:Array (Option Value)}
{mV aG bh fQ jX yx dU cO ji gw cU Hq Fb fU dj bV mc mP:Addr}{aj9 VM Yo VN VP:ClassData}{mt:Value}{mod:Option Addr}{mvs:Array Value}{msl:Array (Option Value)}
 (h8b:W.nsIn K mainGlobals "Ask" = some (some (.ref mV)))
 (h8c:W.nsIn K mainGlobals "ByBox" = some (some (.ref aG)))
 (h8d:W.nsIn K mainGlobals "Compare" = some (some (.ref bh)))
 (h8e:W.nsIn K mainGlobals "Going" = some (some (.ref fQ)))
 (h8f:W.nsIn K mainGlobals "Is" = some (some (.ref jX)))
 (h8g:W.nsIn K mainGlobals "Kind" = some (some (.ref yx)))
 (h8h:W.nsIn K mainGlobals "Money" = some (some (.ref dU)))
 (h8i:W.nsIn K mainGlobals "Names" = some (some (.ref cO)))
 (h8j:W.nsIn K mainGlobals "Not" = some (some (.ref ji)))
 (h8k:W.nsIn K mainGlobals "Paper" = some (some (.ref gw)))
 (h8l:W.nsIn K mainGlobals "Pick" = some (some (.ref cU)))
 (h8m:W.nsIn K mainGlobals "Row" = some (some (.ref Hq)))
 (h8n:W.nsIn K mainGlobals "Saying" = some (some (.ref Fb)))
 (h8o:W.nsIn K mainGlobals "Sheet" = some (some (.ref fU)))
 (h8p:W.nsIn K mainGlobals "Whole" = some (some (.ref dj)))
 (h8q:W.nsIn K mainGlobals "YesNo" = some (some (.ref bV)))
 (h00:W.findIn K (.ref yx) "__init__" = some (some (.ref f0)))
 (h01:K.lookup f0=some ⟨oc0,od0,.func (W.fnOf "__init__" "Kind.__init__" (ak bK) (aj bK) (aa bK) .none kV0 dc0 pm0 an0 cd0 ct0),sl0⟩)
 (h02:W.codeIn K cd0 "Kind.__init__" = true)
 (h03:W.keepIn K (.ref f0)=true)
 (h04:W.findIn K (.ref bV) "__init__" = some (some (.ref f1)))
 (h05:K.lookup f1=some ⟨oc1,od1,.func (W.fnOf "__init__" "YesNo.__init__" (ak bz) (aj bz) (aa bz) .none kV1 dc1 pm1 an1 cd1 ct1),sl1⟩)
 (h06:W.codeIn K cd1 "YesNo.__init__" = true)
 (h07:W.keepIn K (.ref f1)=true)
 (h08:W.findIn K (.ref bV) "fits" = some (some (.ref f2)))
 (h09:K.lookup f2=some ⟨oc2,od2,.func (W.fnOf "fits" "YesNo.fits" (ak bW) (aj bW) (aa bW) .none kV2 dc2 pm2 an2 cd2 ct2),sl2⟩)
 (h0a:W.codeIn K cd2 "YesNo.fits" = true)
 (h0b:W.keepIn K (.ref f2)=true)
 (h0c:W.findIn K (.ref bV) "answer_of" = some (some (.ref f3)))
 (h0d:K.lookup f3=some ⟨oc3,od3,.func (W.fnOf "answer_of" "YesNo.answer_of" (ak aO) (aj aO) (aa aO) .none kV3 dc3 pm3 an3 cd3 ct3),sl3⟩)
 (h0e:W.codeIn K cd3 "YesNo.answer_of" = true)
 (h0f:W.keepIn K (.ref f3)=true)
 (h0g:W.findIn K (.ref bV) "rank" = some (some (.ref f4)))
 (h0h:K.lookup f4=some ⟨oc4,od4,.func (W.fnOf "rank" "YesNo.rank" (ak bY) (aj bY) (aa bY) .none kV4 dc4 pm4 an4 cd4 ct4),sl4⟩)
 (h0i:W.codeIn K cd4 "YesNo.rank" = true)
 (h0j:W.keepIn K (.ref f4)=true)
 (h0k:W.findIn K (.ref cU) "__init__" = some (some (.ref f5)))
 (h0l:K.lookup f5=some ⟨oc5,od5,.func (W.fnOf "__init__" "Pick.__init__" (ak bL) (aj bL) (aa bL) .none kV5 dc5 pm5 an5 cd5 ct5),sl5⟩)
 (h0m:W.codeIn K cd5 "Pick.__init__" = true)
 (h0n:W.keepIn K (.ref f5)=true)
 (h0o:W.findIn K (.ref cU) "fits" = some (some (.ref f6)))
 (h0p:K.lookup f6=some ⟨oc6,od6,.func (W.fnOf "fits" "Pick.fits" (ak cF) (aj cF) (aa cF) .none kV6 dc6 pm6 an6 cd6 ct6),sl6⟩)
 (h0q:W.codeIn K cd6 "Pick.fits" = true)
 (h0r:W.keepIn K (.ref f6)=true)
 (h0s:W.findIn K (.ref cU) "answer_of" = some (some (.ref f7)))
 (h0t:K.lookup f7=some ⟨oc7,od7,.func (W.fnOf "answer_of" "Pick.answer_of" (ak aX) (aj aX) (aa aX) .none kV7 dc7 pm7 an7 cd7 ct7),sl7⟩)
 (h0u:W.codeIn K cd7 "Pick.answer_of" = true)
 (h0v:W.keepIn K (.ref f7)=true)
 (h0w:W.findIn K (.ref cU) "rank" = some (some (.ref f8)))
 (h0x:K.lookup f8=some ⟨oc8,od8,.func (W.fnOf "rank" "Pick.rank" (ak cG) (aj cG) (aa cG) .none kV8 dc8 pm8 an8 cd8 ct8),sl8⟩)
 (h0y:W.codeIn K cd8 "Pick.rank" = true)
 (h0z:W.keepIn K (.ref f8)=true)
 (h10:W.findIn K (.ref cO) "__init__" = some (some (.ref f9)))
 (h11:K.lookup f9=some ⟨oc9,od9,.func (W.fnOf "__init__" "Names.__init__" (ak bA) (aj bA) (aa bA) (.ref dT9) kV9 dc9 pm9 an9 cd9 ct9),sl9⟩)
 (h12:W.codeIn K cd9 "Names.__init__" = true)
 (h13:W.keepIn K (.ref f9)=true)
 (h14:K.lookup dT9=some ⟨.type "tuple",dD9,.seq ([(.int 3 Zt)]:List Value).toArray dN9,dS9⟩)
 (h15:W.findIn K (.ref Hq) "__init__" = some (some (.ref f10)))
 (h16:K.lookup f10=some ⟨atB,aq8,.func (W.fnOf "__init__" "Row.__init__" (ak bZ) (aj bZ) (aa bZ) .none agk agl agm afn abm agn),ash⟩)
 (h17:W.codeIn K abm "Row.__init__" = true)
 (h18:W.keepIn K (.ref f10)=true)
 (h19:W.findIn K (.ref mV) "__init__" = some (some (.ref f11)))
 (h1a:K.lookup f11=some ⟨atD,aq9,.func (W.fnOf "__init__" "Ask.__init__" (ak bJ) (aj bJ) (aa bJ) (.ref abj) ago agp agq afo abn agr),asi⟩)
 (h1b:W.codeIn K abn "Ask.__init__" = true)
 (h1c:W.keepIn K (.ref f11)=true)
 (h1d:K.lookup abj=some ⟨.type "tuple",ara,.seq ([.none]:List Value).toArray auK,asj⟩)
 (h1e:W.findIn K (.ref fU) "__init__" = some (some (.ref f12)))
 (h1f:K.lookup f12=some ⟨atE,arb,.func (W.fnOf "__init__" "Sheet.__init__" (ak bB) (aj bB) (aa bB) .none ags agt agu afp abo agv),asl⟩)
 (h1g:W.codeIn K abo "Sheet.__init__" = true)
 (h1h:W.keepIn K (.ref f12)=true)
 (h1i:W.findIn K (.ref gw) "__init__" = some (some (.ref f13)))
 (h1j:K.lookup f13=some ⟨atF,arc,.func (W.fnOf "__init__" "Paper.__init__" (ak bC) (aj bC) (aa bC) .none agw agx agy afq abp agz),asm⟩)
 (h1k:W.codeIn K abp "Paper.__init__" = true)
 (h1l:W.keepIn K (.ref f13)=true)
 (h1m:W.nsIn K mainGlobals "kinds_of" = some (some (.ref f14)))
 (h1n:K.lookup f14=some ⟨atG,ard,.func (W.fnOf "kinds_of" "kinds_of" (ak dX) (aj dX) (aa dX) .none agA agB agC afr abq agD),asn⟩)
 (h1o:W.codeIn K abq "kinds_of" = true)
 (h1p:W.keepIn K (.ref f14)=true)
 (h1q:W.nsIn K mainGlobals "eaches_of" = some (some (.ref f15)))
 (h1r:K.lookup f15=some ⟨atH,arf,.func (W.fnOf "eaches_of" "eaches_of" (ak dC) (aj dC) (aa dC) .none agE agF agG afs abr agH),aso⟩)
 (h1s:W.codeIn K abr "eaches_of" = true)
 (h1t:W.keepIn K (.ref f15)=true)
 (h1u:W.nsIn K mainGlobals "all_together" = some (some (.ref f16)))
 (h1v:K.lookup f16=some ⟨atJ,arh,.func (W.fnOf "all_together" "all_together" (ak b7) (aj b7) (aa b7) .none agI agJ agK aft abt agL),asp⟩)
 (h1w:W.codeIn K abt "all_together" = true)
 (h1x:W.keepIn K (.ref f16)=true)
 (h1y:W.findIn K (.ref fQ) "__init__" = some (some (.ref f17)))
 (h1z:K.lookup f17=some ⟨atL,ari,.func (W.fnOf "__init__" "Going.__init__" (ak bD) (aj bD) (aa bD) .none agM agN agO afu abu agP),asq⟩)
 (h20:W.codeIn K abu "Going.__init__" = true)
 (h21:W.keepIn K (.ref f17)=true)
 (h22:W.findIn K (.ref fQ) "note" = some (some (.ref f18)))
 (h23:K.lookup f18=some ⟨atM,arj,.func (W.fnOf "note" "Going.note" (ak b8) (aj b8) (aa b8) .none agQ agR agS afv abv agT),asr⟩)
 (h24:W.codeIn K abv "Going.note" = true)
 (h25:W.keepIn K (.ref f18)=true)
 (h26:W.findIn K (.ref fQ) "own_thing" = some (some (.ref f19)))
 (h27:K.lookup f19=some ⟨atN,ark,.func (W.fnOf "own_thing" "Going.own_thing" (ak aP) (aj aP) (aa aP) .none agU agV agW afw abw agX),ass⟩)
 (h28:W.codeIn K abw "Going.own_thing" = true)
 (h29:W.keepIn K (.ref f19)=true)
 (h2a:W.findIn K (.ref fQ) "known_of" = some (some (.ref f20)))
 (h2b:K.lookup f20=some ⟨atP,arl,.func (W.fnOf "known_of" "Going.known_of" (ak aY) (aj aY) (aa aY) .none agY agZ ag0 afx abx ag1),asu⟩)
 (h2c:W.codeIn K abx "Going.known_of" = true)
 (h2d:W.keepIn K (.ref f20)=true)
 (h2e:W.findIn K (.ref fQ) "stop_with" = some (some (.ref f21)))
 (h2f:K.lookup f21=some ⟨atQ,arn,.func (W.fnOf "stop_with" "Going.stop_with" (ak aQ) (aj aQ) (aa aQ) .none ag2 ag3 ag4 afy aby ag5),asv⟩)
 (h2g:W.codeIn K aby "Going.stop_with" = true)
 (h2h:W.keepIn K (.ref f21)=true)
 (h2i:W.findIn K (.ref fQ) "go_through" = some (some (.ref f22)))
 (h2j:K.lookup f22=some ⟨atR,aro,.func (W.fnOf "go_through" "Going.go_through" (ak aL) (aj aL) (aa aL) .none ag6 ag7 ag8 afz abz ag9),asw⟩)
 (h2k:W.codeIn K abz "Going.go_through" = true)
 (h2l:W.keepIn K (.ref f22)=true)
 (h2m:W.findIn K (.ref fQ) "targets_of" = some (some (.ref f23)))
 (h2n:K.lookup f23=some ⟨atU,arp,.func (W.fnOf "targets_of" "Going.targets_of" (ak aM) (aj aM) (aa aM) .none aha ahb ahc afA abA ahd),asx⟩)
 (h2o:W.codeIn K abA "Going.targets_of" = true)
 (h2p:W.keepIn K (.ref f23)=true)
 (h2q:W.findIn K (.ref fQ) "leave" = some (some (.ref f24)))
 (h2r:K.lookup f24=some ⟨atV,arq,.func (W.fnOf "leave" "Going.leave" (ak bM) (aj bM) (aa bM) .none ahe ahf ahg afB abB ahh),asy⟩)
 (h2s:W.codeIn K abB "Going.leave" = true)
 (h2t:W.keepIn K (.ref f24)=true)
 (h2u:W.findIn K (.ref fQ) "go" = some (some (.ref f25)))
 (h2v:K.lookup f25=some ⟨atX,ars,.func (W.fnOf "go" "Going.go" (ak cV) (aj cV) (aa cV) .none ahi ahj ahk afC abC ahl),asz⟩)
 (h2w:W.codeIn K abC "Going.go" = true)
 (h2x:W.keepIn K (.ref f25)=true)
 (h2y:W.nsIn K mainGlobals "compares" = some (some (.ref f26)))
 (h2z:K.lookup f26=some ⟨atY,art,.func (W.fnOf "compares" "compares" (ak dY) (aj dY) (aa dY) .none ahm ahn aho afD abD ahp),asA⟩)
 (h30:W.codeIn K abD "compares" = true)
 (h31:W.keepIn K (.ref f26)=true)
 (h32:W.nsIn K mainGlobals "surely_compares" = some (some (.ref f27)))
 (h33:K.lookup f27=some ⟨atZ,aru,.func (W.fnOf "surely_compares" "surely_compares" (ak bj) (aj bj) (aa bj) .none ahq ahr ahs afE abE aht),asB⟩)
 (h34:W.codeIn K abE "surely_compares" = true)
 (h35:W.keepIn K (.ref f27)=true)
 (h36:W.findIn K (.ref Fb) "first_open" = some (some (.ref Wa)))
 (h37:K.lookup Wa=some ⟨at3,arv,.func (W.fnOf "first_open" "Saying.first_open" (ak aH) (aj aH) (aa aH) .none ahu ahv ahw afF abF ahx),asC⟩)
 (h38:W.codeIn K abF "Saying.first_open" = true)
 (h39:W.keepIn K (.ref Wa)=true)
 (h3a:W.findIn K (.ref jX) "__init__" = some (some (.ref f29)))
 (h3b:K.lookup f29=some ⟨at4,arw,.func (W.fnOf "__init__" "Is.__init__" (ak cg) (aj cg) (aa cg) (.ref abk) ahy ahz ahA afG abG ahB),asD⟩)
 (h3c:W.codeIn K abG "Is.__init__" = true)
 (h3d:W.keepIn K (.ref f29)=true)
 (h3e:K.lookup abk=some ⟨.type "tuple",arx,.seq ([.none]:List Value).toArray auL,asF⟩)
 (h3f:W.findIn K (.ref jX) "atoms" = some (some (.ref f30)))
 (h3g:K.lookup f30=some ⟨at5,arz,.func (W.fnOf "atoms" "Is.atoms" (ak cW) (aj cW) (aa cW) .none ahC ahD ahE afH abH ahF),asG⟩)
 (h3h:W.codeIn K abH "Is.atoms" = true)
 (h3i:W.keepIn K (.ref f30)=true)
 (h3j:W.findIn K (.ref jX) "settled" = some (some (.ref f31)))
 (h3k:K.lookup f31=some ⟨at6,arA,.func (W.fnOf "settled" "Is.settled" (ak cj) (aj cj) (aa cj) .none ahG ahH ahI afI abI ahJ),asH⟩)
 (h3l:W.codeIn K abI "Is.settled" = true)
 (h3m:W.keepIn K (.ref f31)=true)
 (h3n:W.findIn K (.ref jX) "sure" = some (some (.ref f32)))
 (h3o:K.lookup f32=some ⟨at7,arB,.func (W.fnOf "sure" "Is.sure" (ak dD) (aj dD) (aa dD) .none ahK ahL ahM afJ abJ ahN),asI⟩)
 (h3p:W.codeIn K abJ "Is.sure" = true)
 (h3q:W.keepIn K (.ref f32)=true)
 (h3r:W.findIn K (.ref bh) "__init__" = some (some (.ref f33)))
 (h3s:K.lookup f33=some ⟨at8,arC,.func (W.fnOf "__init__" "Compare.__init__" (ak aZ) (aj aZ) (aa aZ) .none ahO ahP ahQ afK abK ahR),asJ⟩)
 (h3t:W.codeIn K abK "Compare.__init__" = true)
 (h3u:W.keepIn K (.ref f33)=true)
 (h3v:W.findIn K (.ref bh) "atoms" = some (some (.ref f34)))
 (h3w:K.lookup f34=some ⟨at9,arD,.func (W.fnOf "atoms" "Compare.atoms" (ak bu) (aj bu) (aa bu) .none ahS ahT ahU afL abL ahV),asK⟩)
 (h3x:W.codeIn K abL "Compare.atoms" = true)
 (h3y:W.keepIn K (.ref f34)=true)
 (h3z:W.findIn K (.ref bh) "settled" = some (some (.ref f35)))
 (h40:K.lookup f35=some ⟨aua,arE,.func (W.fnOf "settled" "Compare.settled" (ak aR) (aj aR) (aa aR) .none ahW ahX ahY afM abM ahZ),asL⟩)
 (h41:W.codeIn K abM "Compare.settled" = true)
 (h42:W.keepIn K (.ref f35)=true)
 (h43:W.findIn K (.ref bh) "sure" = some (some (.ref f36)))
 (h44:K.lookup f36=some ⟨aub,arF,.func (W.fnOf "sure" "Compare.sure" (ak bG) (aj bG) (aa bG) .none ah0 ah1 ah2 afN abN ah3),asM⟩)
 (h45:W.codeIn K abN "Compare.sure" = true)
 (h46:W.keepIn K (.ref f36)=true)
 (h47:W.findIn K (.ref ji) "__init__" = some (some (.ref f37)))
 (h48:K.lookup f37=some ⟨auc,arG,.func (W.fnOf "__init__" "Not.__init__" (ak cu) (aj cu) (aa cu) .none ah4 ah5 ah6 afO abO ah7),asN⟩)
 (h49:W.codeIn K abO "Not.__init__" = true)
 (h4a:W.keepIn K (.ref f37)=true)
 (h4b:W.findIn K (.ref ji) "atoms" = some (some (.ref f38)))
 (h4c:K.lookup f38=some ⟨aud,arH,.func (W.fnOf "atoms" "Not.atoms" (ak cH) (aj cH) (aa cH) .none ah8 ah9 aia afP abP aib),asO⟩)
 (h4d:W.codeIn K abP "Not.atoms" = true)
 (h4e:W.keepIn K (.ref f38)=true)
 (h4f:W.findIn K (.ref ji) "settled" = some (some (.ref f39)))
 (h4g:K.lookup f39=some ⟨aue,arI,.func (W.fnOf "settled" "Not.settled" (ak bN) (aj bN) (aa bN) .none aic aid aie afQ abQ aif),asQ⟩)
 (h4h:W.codeIn K abQ "Not.settled" = true)
 (h4i:W.keepIn K (.ref f39)=true)
 (h4j:W.findIn K (.ref ji) "sure" = some (some (.ref f40)))
 (h4k:K.lookup f40=some ⟨auf,arJ,.func (W.fnOf "sure" "Not.sure" (ak cX) (aj cX) (aa cX) .none aih aii aij afR abR aik),asR⟩)
 (h4l:W.codeIn K abR "Not.sure" = true)
 (h4m:W.keepIn K (.ref f40)=true)
 (h4n:W.nsIn K mainGlobals "range_in" = some (some (.ref f41)))
 (h4o:K.lookup f41=some ⟨auh,arK,.func (W.fnOf "range_in" "range_in" (ak dZ) (aj dZ) (aa dZ) .none ail aim ain afS abS aio),asS⟩)
 (h4p:W.codeIn K abS "range_in" = true)
 (h4q:W.keepIn K (.ref f41)=true)
 (h4r:W.nsIn K mainGlobals "cut_out" = some (some (.ref f42)))
 (h4s:K.lookup f42=some ⟨aui,arL,.func (W.fnOf "cut_out" "cut_out" (ak fK) (aj fK) (aa fK) .none aip aiq air afT abT ais),asT⟩)
 (h4t:W.codeIn K abT "cut_out" = true)
 (h4u:W.keepIn K (.ref f42)=true)
 (h4v:W.nsIn K mainGlobals "cut_of" = some (some (.ref f43)))
 (h4w:K.lookup f43=some ⟨auj,arM,.func (W.fnOf "cut_of" "cut_of" (ak gP) (aj gP) (aa gP) .none ait aiu aiv afU abU aiw),asU⟩)
 (h4x:W.codeIn K abU "cut_of" = true)
 (h4y:W.keepIn K (.ref f43)=true)
 (h4z:W.findIn K (.ref aG) "__init__" = some (some (.ref f44)))
 (h50:K.lookup f44=some ⟨auk,arN,.func (W.fnOf "__init__" "ByBox.__init__" (ak bH) (aj bH) (aa bH) .none aix aiy aiz afV abV aiA),asV⟩)
 (h51:W.codeIn K abV "ByBox.__init__" = true)
 (h52:W.keepIn K (.ref f44)=true)
 (h53:W.findIn K (.ref aG) "split_at" = some (some (.ref f45)))
 (h54:K.lookup f45=some ⟨aul,arO,.func (W.fnOf "split_at" "ByBox.split_at" (ak bc) (aj bc) (aa bc) .none aiB aiC aiD afW abW aiE),asW⟩)
 (h55:W.codeIn K abW "ByBox.split_at" = true)
 (h56:W.keepIn K (.ref f45)=true)
 (h57:W.findIn K (.ref aG) "things_of" = some (some (.ref f46)))
 (h58:K.lookup f46=some ⟨aum,arP,.func (W.fnOf "things_of" "ByBox.things_of" (ak aU) (aj aU) (aa aU) .none aiF aiG aiH afX abX aiI),asY⟩)
 (h59:W.codeIn K abX "ByBox.things_of" = true)
 (h5a:W.keepIn K (.ref f46)=true)
 (h5b:W.findIn K (.ref aG) "put" = some (some (.ref f47)))
 (h5c:K.lookup f47=some ⟨aun,arQ,.func (W.fnOf "put" "ByBox.put" (ak cI) (aj cI) (aa cI) .none aiJ aiK aiL afY abY aiM),asZ⟩)
 (h5d:W.codeIn K abY "ByBox.put" = true)
 (h5e:W.keepIn K (.ref f47)=true)
 (h5f:W.findIn K (.ref aG) "span_of" = some (some (.ref f48)))
 (h5g:K.lookup f48=some ⟨auo,arR,.func (W.fnOf "span_of" "ByBox.span_of" (ak bw) (aj bw) (aa bw) .none aiN aiO aiP afZ abZ aiQ),as3⟩)
 (h5h:W.codeIn K abZ "ByBox.span_of" = true)
 (h5i:W.keepIn K (.ref f48)=true)
 (h5j:W.findIn K (.ref aG) "is_so" = some (some (.ref f49)))
 (h5k:K.lookup f49=some ⟨aup,arS,.func (W.fnOf "is_so" "ByBox.is_so" (ak aK) (aj aK) (aa aK) .none aiR aiS aiT af0 Yn aiU),as4⟩)
 (h5l:W.codeIn K Yn "ByBox.is_so" = true)
 (h5m:W.keepIn K (.ref f49)=true)
 (h5n:W.findIn K (.ref aG) "split_by" = some (some (.ref f50)))
 (h5o:K.lookup f50=some ⟨auq,arT,.func (W.fnOf "split_by" "ByBox.split_by" (ak bf) (aj bf) (aa bf) .none aiV aiW aiX af1 ab0 aiY),as5⟩)
 (h5p:W.codeIn K ab0 "ByBox.split_by" = true)
 (h5q:W.keepIn K (.ref f50)=true)
 (h5r:W.nsIn K mainGlobals "going_by" = some (some (.ref f51)))
 (h5s:K.lookup f51=some ⟨aur,arU,.func (W.fnOf "going_by" "going_by" (ak d7) (aj d7) (aa d7) .none aiZ ai0 ai1 af2 ab1 ai2),as6⟩)
 (h5t:W.codeIn K ab1 "going_by" = true)
 (h5u:W.keepIn K (.ref f51)=true)
 (h5v:W.nsIn K mainGlobals "ranges_of" = some (some (.ref f52)))
 (h5w:K.lookup f52=some ⟨aus,arV,.func (W.fnOf "ranges_of" "ranges_of" (ak dF) (aj dF) (aa dF) .none ai3 ai4 ai5 af3 ab2 ai6),as7⟩)
 (h5x:W.codeIn K ab2 "ranges_of" = true)
 (h5y:W.keepIn K (.ref f52)=true)
 (h5z:W.nsIn K mainGlobals "narrowed" = some (some (.ref f53)))
 (h60:K.lookup f53=some ⟨aut,arW,.func (W.fnOf "narrowed" "narrowed" (ak d8) (aj d8) (aa d8) .none ai7 ai8 ai9 af4 ab3 aja),as8⟩)
 (h61:W.codeIn K ab3 "narrowed" = true)
 (h62:W.keepIn K (.ref f53)=true)
 (h63:W.nsIn K mainGlobals "parts_of" = some (some (.ref f54)))
 (h64:K.lookup f54=some ⟨auu,arX,.func (W.fnOf "parts_of" "parts_of" (ak d9) (aj d9) (aa d9) .none ajb ajc ajd af5 ab4 aje),as9⟩)
 (h65:W.codeIn K ab4 "parts_of" = true)
 (h66:W.keepIn K (.ref f54)=true)
 (h67:W.nsIn K mainGlobals "cover" = some (some (.ref f55)))
 (h68:K.lookup f55=some ⟨auv,arY,.func (W.fnOf "cover" "cover" (ak jF) (aj jF) (aa jF) (.ref abl) ajf ajg ajh af6 ab5 aji),ata⟩)
 (h69:W.codeIn K ab5 "cover" = true)
 (h6a:W.keepIn K (.ref f55)=true)
 (h6b:K.lookup abl=some ⟨.type "tuple",arZ,.seq ([(.int 64 VL),.none]:List Value).toArray auM,atb⟩)
 (h6c:W.nsIn K mainGlobals "_law_cell" = some (some (.ref f56)))
 (h6d:K.lookup f56=some ⟨auw,ar0,.func (W.fnOf "_law_cell" "_law_cell" (ak eE) (aj eE) (aa eE) .none ajj ajk ajl af7 ab6 ajm),atc⟩)
 (h6e:W.codeIn K ab6 "_law_cell" = true)
 (h6f:W.keepIn K (.ref f56)=true)
 (h6g:W.nsIn K mainGlobals "_law_name" = some (some (.ref f57)))
 (h6h:K.lookup f57=some ⟨auy,ar3,.func (W.fnOf "_law_name" "_law_name" (ak eF) (aj eF) (aa eF) .none ajn ajo ajp af8 ab7 ajq),atd⟩)
 (h6i:W.codeIn K ab7 "_law_name" = true)
 (h6j:W.keepIn K (.ref f57)=true)
 (h6k:W.nsIn K mainGlobals "_law_kind" = some (some (.ref f58)))
 (h6l:K.lookup f58=some ⟨auz,ar4,.func (W.fnOf "_law_kind" "_law_kind" (ak eG) (aj eG) (aa eG) .none ajr ajs ajt af9 ab8 aju),ate⟩)
 (h6m:W.codeIn K ab8 "_law_kind" = true)
 (h6n:W.keepIn K (.ref f58)=true)
 (h6o:W.nsIn K mainGlobals "_law_object" = some (some (.ref f59)))
 (h6p:K.lookup f59=some ⟨auA,ar5,.func (W.fnOf "_law_object" "_law_object" (ak cY) (aj cY) (aa cY) .none ajv ajw ajx aga ab9 ajy),atf⟩)
 (h6q:W.codeIn K ab9 "_law_object" = true)
 (h6r:W.keepIn K (.ref f59)=true)
 (h6s:W.nsIn K mainGlobals "_law_three" = some (some (.ref f60)))
 (h6t:K.lookup f60=some ⟨auB,ar6,.func (W.fnOf "_law_three" "_law_three" (ak dG) (aj dG) (aa dG) .none ajz ajA ajB agb aca ajC),atg⟩)
 (h6u:W.codeIn K aca "_law_three" = true)
 (h6v:W.keepIn K (.ref f60)=true)
 (h6w:W.nsIn K mainGlobals "_law_cut" = some (some (.ref f61)))
 (h6x:K.lookup f61=some ⟨auC,ar7,.func (W.fnOf "_law_cut" "_law_cut" (ak fL) (aj fL) (aa fL) .none ajD ajE ajF agc acb ajG),ath⟩)
 (h6y:W.codeIn K acb "_law_cut" = true)
 (h6z:W.keepIn K (.ref f61)=true)
 (h70:W.nsIn K mainGlobals "_law_alike" = some (some (.ref f62)))
 (h71:K.lookup f62=some ⟨auD,ar8,.func (W.fnOf "_law_alike" "_law_alike" (ak dH) (aj dH) (aa dH) .none ajH ajI ajJ agd acd ajK),ati⟩)
 (h72:W.codeIn K acd "_law_alike" = true)
 (h73:W.keepIn K (.ref f62)=true)
 (h74:W.nsIn K mainGlobals "_law_range" = some (some (.ref f63)))
 (h75:K.lookup f63=some ⟨auE,ar9,.func (W.fnOf "_law_range" "_law_range" (ak dI) (aj dI) (aa dI) .none ajL ajM ajN age ace ajO),atj⟩)
 (h76:W.codeIn K ace "_law_range" = true)
 (h77:W.keepIn K (.ref f63)=true)
 (h78:W.nsIn K mainGlobals "_law_atom" = some (some (.ref f64)))
 (h79:K.lookup f64=some ⟨auF,asa,.func (W.fnOf "_law_atom" "_law_atom" (ak eN) (aj eN) (aa eN) .none ajP ajQ ajR agf acf ajS),atk⟩)
 (h7a:W.codeIn K acf "_law_atom" = true)
 (h7b:W.keepIn K (.ref f64)=true)
 (h7c:W.nsIn K mainGlobals "_law_saying" = some (some (.ref f65)))
 (h7d:K.lookup f65=some ⟨auG,asb,.func (W.fnOf "_law_saying" "_law_saying" (ak cZ) (aj cZ) (aa cZ) .none ajT ajU ajV agg acg ajW),atl⟩)
 (h7e:W.codeIn K acg "_law_saying" = true)
 (h7f:W.keepIn K (.ref f65)=true)
 (h7g:W.nsIn K mainGlobals "_law_leaf" = some (some (.ref f66)))
 (h7h:K.lookup f66=some ⟨auH,asd,.func (W.fnOf "_law_leaf" "_law_leaf" (ak eO) (aj eO) (aa eO) .none ajX ajY ajZ agh ach aj0),atm⟩)
 (h7i:W.codeIn K ach "_law_leaf" = true)
 (h7j:W.keepIn K (.ref f66)=true)
 (h7k:W.nsIn K mainGlobals "_law_nodes" = some (some (.ref f67)))
 (h7l:K.lookup f67=some ⟨auI,ase,.func (W.fnOf "_law_nodes" "_law_nodes" (ak dJ) (aj dJ) (aa dJ) .none aj1 aj2 aj3 agi aci aj4),atn⟩)
 (h7m:W.codeIn K aci "_law_nodes" = true)
 (h7n:W.keepIn K (.ref f67)=true)
 (h7o:W.nsIn K mainGlobals "law" = some (some (.ref f68)))
 (h7p:K.lookup f68=some ⟨auJ,asf,.func (W.fnOf "law" "law" (ak vM) (aj vM) (aa vM) .none aj5 aj6 aj7 agj acj aj8),ato⟩)
 (h7q:W.codeIn K acj "law" = true)
 (h7r:W.keepIn K (.ref f68)=true)
 (h7s:W.nsIn K mainGlobals "WRITTEN_TRUTHS" = some (some (.ref ga0)))
 (h7t:K.lookup ga0=some ⟨go0,gd0,.dict ge0 gn0,gs0⟩)
 (h7u:(ga0 == sysModules)=false)
 (h7v:go0=.type "dict")
 (h7w:gd0=none)
 (h7x:gs0=#[])
 (h7y:PyProof.Rows.KTD.Rows (fun (b:Bool) (v:Value)=>v=.bool b) ge0.toList [("yes",true),("no",false)])
 (h7z:W.nsIn K mainGlobals "all" = some none)
 (h80:W.nsIn K mainGlobals "any" = some none)
 (h81:W.nsIn K mainGlobals "bool" = some none)
 (h82:W.nsIn K mainGlobals "dict" = some none)
 (h83:W.nsIn K mainGlobals "int" = some none)
 (h84:W.nsIn K mainGlobals "isinstance" = some none)
 (h85:W.nsIn K mainGlobals "len" = some none)
 (h86:W.nsIn K mainGlobals "list" = some none)
 (h87:W.nsIn K mainGlobals "min" = some none)
 (h88:W.nsIn K mainGlobals "range" = some none)
 (h89:W.nsIn K mainGlobals "str" = some none)
 (h8a:W.nsIn K mainGlobals "tuple" = some none)
 (h8r:W.clsIn K jX=some aj9)
 (h8s:W.typeIn K (.ref jX)=some (.type "type"))
 (h8t:W.clsIn K cO=some VM)
 (h8u:W.typeIn K (.ref cO)=some (.type "type"))
 (h8v:W.clsIn K cU=some Yo)
 (h8w:W.typeIn K (.ref cU)=some (.type "type"))
 (h8x:W.clsIn K dj=some VN)
 (h8y:W.typeIn K (.ref dj)=some (.type "type"))
 (h8z:W.clsIn K bV=some VP)
 (h90:W.typeIn K (.ref bV)=some (.type "type"))
 (h91:W.mroIn K bV (.ref cU)=some false)
 (h92:(Value.ref bV == Value.ref cU)=false)
 (h93:W.mroIn K cU (.ref bV)=some false)
 (h94:(Value.ref cU == Value.ref bV)=false)
 (h95:W.mroIn K dj (.ref cO)=some false)
 (h96:(Value.ref dj == Value.ref cO)=false)
 (h97:W.mroIn K dU (.ref dj)=some true)
 (h98:(Value.ref dU == Value.ref dj)=false)
 (h99:W.mroIn K dU (.ref cO)=some false)
 (h9a:(Value.ref dU == Value.ref cO)=false)
 (h9b:W.mroIn K cO (.ref dj)=some false)
 (h9c:(Value.ref cO == Value.ref dj)=false)
 (h9d:W.mroIn K bh (.ref jX)=some false)
 (h9e:(Value.ref bh == Value.ref jX)=false)
 (h9f:W.plainGet K bV Str.empty=true)
 (h9g:W.hasDictIn K bV=true)
 (h9h:W.plainOver K bV=true)
 (h9i:W.findIn K (.ref bV) "__setattr__" = some (some (.builtin "object.__setattr__")))
 (h9j:W.findIn K (.ref bV) "__class__" = some (some (.builtin "object.__class__")))
 (h9k:W.specialIn K (.builtin "object.__class__") "__get__" = some (some (.builtin "getset_descriptor.__get__")))
 (h9l:W.takesIn K (.builtin "object.__class__")=some true)
 (h9m:W.mroIn K bV (.type "object")=some true)
 (h9n:W.makesIn K bV=true)
 (h9o:W.findIn K (.ref bV) "__init__" = some (some (.ref f1)))
 (h9p:W.isFn K (.ref f1)=true)
 (h9q:W.keepIn K (.ref bV)=true)
 (h9r:W.findIn K (.ref bV) "fits" = some (some (.ref f2)))
 (h9s:W.isFn K (.ref f2)=true)
 (h9t:W.findIn K (.ref bV) "answer_of" = some (some (.ref f3)))
 (h9u:W.isFn K (.ref f3)=true)
 (h9v:W.findIn K (.ref bV) "rank" = some (some (.ref f4)))
 (h9w:W.isFn K (.ref f4)=true)
 (h9x:W.findIn K (.ref bV) "low" = some none)
 (h9y:W.findIn K (.ref bV) "high" = some none)
 (h9z:W.plainGet K dj Str.empty=true)
 (ha0:W.hasDictIn K dj=true)
 (ha1:W.plainOver K dj=true)
 (ha2:W.findIn K (.ref dj) "__setattr__" = some (some (.builtin "object.__setattr__")))
 (ha3:W.findIn K (.ref dj) "__class__" = some (some (.builtin "object.__class__")))
 (ha4:W.specialIn K (.builtin "object.__class__") "__get__" = some (some (.builtin "getset_descriptor.__get__")))
 (ha5:W.takesIn K (.builtin "object.__class__")=some true)
 (ha6:W.mroIn K dj (.type "object")=some true)
 (ha7:W.makesIn K dj=true)
 (ha8:W.findIn K (.ref dj) "__init__" = some (some (.ref f0)))
 (ha9:W.isFn K (.ref f0)=true)
 (haa:W.keepIn K (.ref dj)=true)
 (hab:W.findIn K (.ref dj) "low" = some none)
 (hac:W.findIn K (.ref dj) "high" = some none)
 (had:W.plainGet K dU Str.empty=true)
 (hae:W.hasDictIn K dU=true)
 (haf:W.plainOver K dU=true)
 (hag:W.findIn K (.ref dU) "__setattr__" = some (some (.builtin "object.__setattr__")))
 (hah:W.findIn K (.ref dU) "__class__" = some (some (.builtin "object.__class__")))
 (hai:W.specialIn K (.builtin "object.__class__") "__get__" = some (some (.builtin "getset_descriptor.__get__")))
 (haj:W.takesIn K (.builtin "object.__class__")=some true)
 (hak:W.mroIn K dU (.type "object")=some true)
 (hal:W.makesIn K dU=true)
 (ham:W.findIn K (.ref dU) "__init__" = some (some (.ref f0)))
 (han:W.isFn K (.ref f0)=true)
 (hao:W.keepIn K (.ref dU)=true)
 (hap:W.findIn K (.ref dU) "low" = some none)
 (haq:W.findIn K (.ref dU) "high" = some none)
 (har:W.plainGet K cO Str.empty=true)
 (has:W.hasDictIn K cO=true)
 (hat:W.plainOver K cO=true)
 (hau:W.findIn K (.ref cO) "__setattr__" = some (some (.builtin "object.__setattr__")))
 (hav:W.findIn K (.ref cO) "__class__" = some (some (.builtin "object.__class__")))
 (haw:W.specialIn K (.builtin "object.__class__") "__get__" = some (some (.builtin "getset_descriptor.__get__")))
 (hax:W.takesIn K (.builtin "object.__class__")=some true)
 (hay:W.mroIn K cO (.type "object")=some true)
 (haz:W.makesIn K cO=true)
 (hb0:W.findIn K (.ref cO) "__init__" = some (some (.ref f9)))
 (hb1:W.isFn K (.ref f9)=true)
 (hb2:W.keepIn K (.ref cO)=true)
 (hb3:W.findIn K (.ref cO) "low" = some none)
 (hb4:W.findIn K (.ref cO) "high" = some none)
 (Zg:W.plainGet K cU Str.empty=true)
 (V7:W.hasDictIn K cU=true)
 (hb7:W.plainOver K cU=true)
 (hb8:W.findIn K (.ref cU) "__setattr__" = some (some (.builtin "object.__setattr__")))
 (hb9:W.findIn K (.ref cU) "__class__" = some (some (.builtin "object.__class__")))
 (hba:W.specialIn K (.builtin "object.__class__") "__get__" = some (some (.builtin "getset_descriptor.__get__")))
 (hbb:W.takesIn K (.builtin "object.__class__")=some true)
 (hbc:W.mroIn K cU (.type "object")=some true)
 (hbd:W.makesIn K cU=true)
 (hbe:W.findIn K (.ref cU) "__init__" = some (some (.ref f5)))
 (hbf:W.isFn K (.ref f5)=true)
 (hbg:W.keepIn K (.ref cU)=true)
 (hbh:W.findIn K (.ref cU) "fits" = some (some (.ref f6)))
 (hbi:W.isFn K (.ref f6)=true)
 (hbj:W.findIn K (.ref cU) "answer_of" = some (some (.ref f7)))
 (hbk:W.isFn K (.ref f7)=true)
 (YF:W.findIn K (.ref cU) "rank" = some (some (.ref f8)))
 (hbm:W.isFn K (.ref f8)=true)
 (hbn:W.findIn K (.ref cU) "low" = some none)
 (hbo:W.findIn K (.ref cU) "high" = some none)
 (hbp:W.findIn K (.ref cU) "words" = some none)
 (hbq:W.plainGet K mV Str.empty=true)
 (hbr:W.hasDictIn K mV=true)
 (hbs:W.plainOver K mV=true)
 (hbt:W.findIn K (.ref mV) "__setattr__" = some (some (.builtin "object.__setattr__")))
 (hbu:W.findIn K (.ref mV) "__class__" = some (some (.builtin "object.__class__")))
 (hbv:W.specialIn K (.builtin "object.__class__") "__get__" = some (some (.builtin "getset_descriptor.__get__")))
 (hbw:W.takesIn K (.builtin "object.__class__")=some true)
 (hbx:W.mroIn K mV (.type "object")=some true)
 (hby:W.makesIn K mV=true)
 (hbz:W.findIn K (.ref mV) "__init__" = some (some (.ref f11)))
 (hc0:W.isFn K (.ref f11)=true)
 (hc1:W.keepIn K (.ref mV)=true)
 (hc2:W.findIn K (.ref mV) "name" = some none)
 (hc3:W.findIn K (.ref mV) "kind" = some none)
 (hc4:W.findIn K (.ref mV) "when" = some none)
 (hc5:W.plainGet K fU Str.empty=true)
 (hc6:W.hasDictIn K fU=true)
 (hc7:W.plainOver K fU=true)
 (hc8:W.findIn K (.ref fU) "__setattr__" = some (some (.builtin "object.__setattr__")))
 (hc9:W.makesIn K fU=true)
 (hca:W.findIn K (.ref fU) "__init__" = some (some (.ref f12)))
 (hcb:W.isFn K (.ref f12)=true)
 (hcc:W.keepIn K (.ref fU)=true)
 (hcd:W.findIn K (.ref fU) "name" = some none)
 (hce:W.findIn K (.ref fU) "each" = some none)
 (hcf:W.findIn K (.ref fU) "rows" = some none)
 (hcg:W.findIn K (.ref fU) "ways" = some none)
 (hch:W.plainGet K gw Str.empty=true)
 (hci:W.hasDictIn K gw=true)
 (hcj:W.plainOver K gw=true)
 (hck:W.findIn K (.ref gw) "__setattr__" = some (some (.builtin "object.__setattr__")))
 (hcl:W.makesIn K gw=true)
 (hcm:W.findIn K (.ref gw) "__init__" = some (some (.ref f13)))
 (hcn:W.isFn K (.ref f13)=true)
 (hco:W.keepIn K (.ref gw)=true)
 (hcp:W.findIn K (.ref gw) "name" = some none)
 (hcq:W.findIn K (.ref gw) "sheets" = some none)
 (hcr:W.findIn K (.ref gw) "totals" = some none)
 (hcs:W.plainGet K aG Str.empty=true)
 (hct:W.hasDictIn K aG=true)
 (hcu:W.plainOver K aG=true)
 (hcv:W.findIn K (.ref aG) "__setattr__" = some (some (.builtin "object.__setattr__")))
 (hcw:W.makesIn K aG=true)
 (hcx:W.findIn K (.ref aG) "__init__" = some (some (.ref f44)))
 (hcy:W.isFn K (.ref f44)=true)
 (hcz:W.keepIn K (.ref aG)=true)
 (hd0:W.findIn K (.ref aG) "things_of" = some (some (.ref f46)))
 (hd1:W.isFn K (.ref f46)=true)
 (hd2:W.findIn K (.ref aG) "put" = some (some (.ref f47)))
 (hd3:W.isFn K (.ref f47)=true)
 (hd4:W.findIn K (.ref aG) "is_so" = some (some (.ref f49)))
 (hd5:W.isFn K (.ref f49)=true)
 (hd6:W.findIn K (.ref aG) "note" = some (some (.ref f18)))
 (hd7:W.isFn K (.ref f18)=true)
 (hd8:W.findIn K (.ref aG) "stop_with" = some (some (.ref f21)))
 (hd9:W.isFn K (.ref f21)=true)
 (hda:W.findIn K (.ref aG) "go_through" = some (some (.ref f22)))
 (hdb:W.isFn K (.ref f22)=true)
 (hdc:W.findIn K (.ref aG) "targets_of" = some (some (.ref f23)))
 (hdd:W.isFn K (.ref f23)=true)
 (hde:W.findIn K (.ref aG) "leave" = some (some (.ref f24)))
 (hdf:W.isFn K (.ref f24)=true)
 (hdg:W.findIn K (.ref aG) "go" = some (some (.ref f25)))
 (hdh:W.isFn K (.ref f25)=true)
 (hdi:W.findIn K (.ref aG) "own_thing" = some (some (.ref f19)))
 (hdj:W.isFn K (.ref f19)=true)
 (hdk:W.findIn K (.ref aG) "known_of" = some (some (.ref f20)))
 (hdl:W.isFn K (.ref f20)=true)
 (hdm:W.findIn K (.ref aG) "span_of" = some (some (.ref f48)))
 (hdn:W.isFn K (.ref f48)=true)
 (hdo:W.findIn K (.ref aG) "split_at" = some (some (.ref f45)))
 (hdp:W.isFn K (.ref f45)=true)
 (hdq:W.findIn K (.ref aG) "split_by" = some (some (.ref f50)))
 (hdr:W.isFn K (.ref f50)=true)
 (hds:W.findIn K (.ref aG) "paper" = some none)
 (hdt:W.findIn K (.ref aG) "alone" = some none)
 (hdu:W.findIn K (.ref aG) "kinds" = some none)
 (hdv:W.findIn K (.ref aG) "eaches" = some none)
 (hdw:W.findIn K (.ref aG) "together" = some none)
 (hdx:W.findIn K (.ref aG) "asked" = some none)
 (hdy:W.findIn K (.ref aG) "log" = some none)
 (hdz:W.findIn K (.ref aG) "doubles" = some none)
 (he0:W.findIn K (.ref aG) "over" = some none)
 (he1:W.findIn K (.ref aG) "box" = some none)
 (he2:W.findIn K (.ref aG) "cutting" = some none)
 (he3:W.plainGet K jX Str.empty=true)
 (he4:W.hasDictIn K jX=true)
 (he5:W.plainOver K jX=true)
 (he6:W.findIn K (.ref jX) "__setattr__" = some (some (.builtin "object.__setattr__")))
 (he7:W.findIn K (.ref jX) "__class__" = some (some (.builtin "object.__class__")))
 (he8:W.specialIn K (.builtin "object.__class__") "__get__" = some (some (.builtin "getset_descriptor.__get__")))
 (he9:W.takesIn K (.builtin "object.__class__")=some true)
 (hea:W.mroIn K jX (.type "object")=some true)
 (heb:W.makesIn K jX=true)
 (hec:W.findIn K (.ref jX) "__init__" = some (some (.ref f29)))
 (hed:W.isFn K (.ref f29)=true)
 (hee:W.keepIn K (.ref jX)=true)
 (hef:W.findIn K (.ref jX) "settled" = some (some (.ref f31)))
 (heg:W.isFn K (.ref f31)=true)
 (heh:W.findIn K (.ref jX) "sure" = some (some (.ref f32)))
 (hei:W.isFn K (.ref f32)=true)
 (hej:W.findIn K (.ref jX) "atoms" = some (some (.ref f30)))
 (hek:W.isFn K (.ref f30)=true)
 (hel:W.findIn K (.ref jX) "first_open" = some (some (.ref Wa)))
 (hem:W.isFn K (.ref Wa)=true)
 (hen:W.findIn K (.ref jX) "name" = some none)
 (heo:W.findIn K (.ref jX) "word" = some none)
 (hep:W.findIn K (.ref jX) "place" = some none)
 (heq:W.plainGet K bh Str.empty=true)
 (her:W.hasDictIn K bh=true)
 (hes:W.plainOver K bh=true)
 (het:W.findIn K (.ref bh) "__setattr__" = some (some (.builtin "object.__setattr__")))
 (heu:W.findIn K (.ref bh) "__class__" = some (some (.builtin "object.__class__")))
 (hev:W.specialIn K (.builtin "object.__class__") "__get__" = some (some (.builtin "getset_descriptor.__get__")))
 (hew:W.takesIn K (.builtin "object.__class__")=some true)
 (hex:W.mroIn K bh (.type "object")=some true)
 (hey:W.makesIn K bh=true)
 (hez:W.findIn K (.ref bh) "__init__" = some (some (.ref f33)))
 (hf0:W.isFn K (.ref f33)=true)
 (hf1:W.keepIn K (.ref bh)=true)
 (hf2:W.findIn K (.ref bh) "settled" = some (some (.ref f35)))
 (hf3:W.isFn K (.ref f35)=true)
 (hf4:W.findIn K (.ref bh) "sure" = some (some (.ref f36)))
 (hf5:W.isFn K (.ref f36)=true)
 (hf6:W.findIn K (.ref bh) "atoms" = some (some (.ref f34)))
 (hf7:W.isFn K (.ref f34)=true)
 (hf8:W.findIn K (.ref bh) "first_open" = some (some (.ref Wa)))
 (hf9:W.isFn K (.ref Wa)=true)
 (hfa:W.findIn K (.ref bh) "name" = some none)
 (hfb:W.findIn K (.ref bh) "how" = some none)
 (hfc:W.findIn K (.ref bh) "number" = some none)
 (hfd:W.plainGet K ji Str.empty=true)
 (hfe:W.hasDictIn K ji=true)
 (hff:W.plainOver K ji=true)
 (hfg:W.findIn K (.ref ji) "__setattr__" = some (some (.builtin "object.__setattr__")))
 (hfh:W.makesIn K ji=true)
 (hfi:W.findIn K (.ref ji) "__init__" = some (some (.ref f37)))
 (hfj:W.isFn K (.ref f37)=true)
 (hfk:W.keepIn K (.ref ji)=true)
 (hfl:W.findIn K (.ref ji) "settled" = some (some (.ref f39)))
 (hfm:W.isFn K (.ref f39)=true)
 (hfn:W.findIn K (.ref ji) "sure" = some (some (.ref f40)))
 (hfo:W.isFn K (.ref f40)=true)
 (hfp:W.findIn K (.ref ji) "atoms" = some (some (.ref f38)))
 (hfq:W.isFn K (.ref f38)=true)
 (hfr:W.findIn K (.ref ji) "first_open" = some (some (.ref Wa)))
 (hfs:W.isFn K (.ref Wa)=true)
 (hft:W.findIn K (.ref ji) "test" = some none)
 (hfu:W.readsIn K fQ (.type "type")=true)
 (hfv:W.findCls K (.ref fQ) (.type "type") "__init__" = some (.val (.ref f17)))
 (hfw:W.specialIn K (.ref fQ) "__getattribute__" = some (some (.builtin "type.__getattribute__")))
 (hfx:W.readsIn K yx (.type "type")=true)
 (hfy:W.findCls K (.ref yx) (.type "type") "__init__" = some (.val (.ref f0)))
 (hfz:W.specialIn K (.ref yx) "__getattribute__" = some (some (.builtin "type.__getattribute__")))
 (hg0:W.readsIn K Hq (.type "type")=true)
 (hg1:W.findCls K (.ref Hq) (.type "type") "__init__" = some (.val (.ref f10)))
 (hg2:W.specialIn K (.ref Hq) "__getattribute__" = some (some (.builtin "type.__getattribute__")))
 (mk1:Yn=.ref mc)
 (mk2:K.lookup mc=some ⟨mt,mod,.fields mvs,msl⟩)
 (mk3:mvs[11]? = some (.ref mP))
 (mk4:W.codeHdIn K mc mP=true)
 (mk5:K.lookup mP=none)
 (mk6:h.get? mP=some (W.tabObj #[])) :
 ∃ A:cT,Txt K mg A∧∃ c P,A.aW.code=.ref c∧W.codeHdIn K c P=true∧K.lookup P=none∧h.get? P=some (W.tabObj #[]) :=
 ⟨⟨f0,
   W.fnOf "__init__" "Kind.__init__" (ak bK) (aj bK) (aa bK) .none kV0 dc0 pm0 an0 cd0 ct0,
   f1,
   W.fnOf "__init__" "YesNo.__init__" (ak bz) (aj bz) (aa bz) .none kV1 dc1 pm1 an1 cd1 ct1,
   f2,
   W.fnOf "fits" "YesNo.fits" (ak bW) (aj bW) (aa bW) .none kV2 dc2 pm2 an2 cd2 ct2,
   f3,
   W.fnOf "answer_of" "YesNo.answer_of" (ak aO) (aj aO) (aa aO) .none kV3 dc3 pm3 an3 cd3 ct3,
   f4,
   W.fnOf "rank" "YesNo.rank" (ak bY) (aj bY) (aa bY) .none kV4 dc4 pm4 an4 cd4 ct4,
   f5,
   W.fnOf "__init__" "Pick.__init__" (ak bL) (aj bL) (aa bL) .none kV5 dc5 pm5 an5 cd5 ct5,
   f6,
   W.fnOf "fits" "Pick.fits" (ak cF) (aj cF) (aa cF) .none kV6 dc6 pm6 an6 cd6 ct6,
   f7,
   W.fnOf "answer_of" "Pick.answer_of" (ak aX) (aj aX) (aa aX) .none kV7 dc7 pm7 an7 cd7 ct7,
   f8,
   W.fnOf "rank" "Pick.rank" (ak cG) (aj cG) (aa cG) .none kV8 dc8 pm8 an8 cd8 ct8,
   f9,
   W.fnOf "__init__" "Names.__init__" (ak bA) (aj bA) (aa bA) (.ref dT9) kV9 dc9 pm9 an9 cd9 ct9,
   [(.int 3 Zt)],
   f10,
   W.fnOf "__init__" "Row.__init__" (ak bZ) (aj bZ) (aa bZ) .none agk agl agm afn abm agn,
   f11,
   W.fnOf "__init__" "Ask.__init__" (ak bJ) (aj bJ) (aa bJ) (.ref abj) ago agp agq afo abn agr,
   [.none],
   f12,
   W.fnOf "__init__" "Sheet.__init__" (ak bB) (aj bB) (aa bB) .none ags agt agu afp abo agv,
   f13,
   W.fnOf "__init__" "Paper.__init__" (ak bC) (aj bC) (aa bC) .none agw agx agy afq abp agz,
   f14,
   W.fnOf "kinds_of" "kinds_of" (ak dX) (aj dX) (aa dX) .none agA agB agC afr abq agD,
   f15,
   W.fnOf "eaches_of" "eaches_of" (ak dC) (aj dC) (aa dC) .none agE agF agG afs abr agH,
   f16,
   W.fnOf "all_together" "all_together" (ak b7) (aj b7) (aa b7) .none agI agJ agK aft abt agL,
   f17,
   W.fnOf "__init__" "Going.__init__" (ak bD) (aj bD) (aa bD) .none agM agN agO afu abu agP,
   f18,
   W.fnOf "note" "Going.note" (ak b8) (aj b8) (aa b8) .none agQ agR agS afv abv agT,
   f19,
   W.fnOf "own_thing" "Going.own_thing" (ak aP) (aj aP) (aa aP) .none agU agV agW afw abw agX,
   f20,
   W.fnOf "known_of" "Going.known_of" (ak aY) (aj aY) (aa aY) .none agY agZ ag0 afx abx ag1,
   f21,
   W.fnOf "stop_with" "Going.stop_with" (ak aQ) (aj aQ) (aa aQ) .none ag2 ag3 ag4 afy aby ag5,
   f22,
   W.fnOf "go_through" "Going.go_through" (ak aL) (aj aL) (aa aL) .none ag6 ag7 ag8 afz abz ag9,
   f23,
   W.fnOf "targets_of" "Going.targets_of" (ak aM) (aj aM) (aa aM) .none aha ahb ahc afA abA ahd,
   f24,
   W.fnOf "leave" "Going.leave" (ak bM) (aj bM) (aa bM) .none ahe ahf ahg afB abB ahh,
   f25,
   W.fnOf "go" "Going.go" (ak cV) (aj cV) (aa cV) .none ahi ahj ahk afC abC ahl,
   f26,
   W.fnOf "compares" "compares" (ak dY) (aj dY) (aa dY) .none ahm ahn aho afD abD ahp,
   f27,
   W.fnOf "surely_compares" "surely_compares" (ak bj) (aj bj) (aa bj) .none ahq ahr ahs afE abE aht,
   Wa,
   W.fnOf "first_open" "Saying.first_open" (ak aH) (aj aH) (aa aH) .none ahu ahv ahw afF abF ahx,
   f29,
   W.fnOf "__init__" "Is.__init__" (ak cg) (aj cg) (aa cg) (.ref abk) ahy ahz ahA afG abG ahB,
   [.none],
   f30,
   W.fnOf "atoms" "Is.atoms" (ak cW) (aj cW) (aa cW) .none ahC ahD ahE afH abH ahF,
   f31,
   W.fnOf "settled" "Is.settled" (ak cj) (aj cj) (aa cj) .none ahG ahH ahI afI abI ahJ,
   f32,
   W.fnOf "sure" "Is.sure" (ak dD) (aj dD) (aa dD) .none ahK ahL ahM afJ abJ ahN,
   f33,
   W.fnOf "__init__" "Compare.__init__" (ak aZ) (aj aZ) (aa aZ) .none ahO ahP ahQ afK abK ahR,
   f34,
   W.fnOf "atoms" "Compare.atoms" (ak bu) (aj bu) (aa bu) .none ahS ahT ahU afL abL ahV,
   f35,
   W.fnOf "settled" "Compare.settled" (ak aR) (aj aR) (aa aR) .none ahW ahX ahY afM abM ahZ,
   f36,
   W.fnOf "sure" "Compare.sure" (ak bG) (aj bG) (aa bG) .none ah0 ah1 ah2 afN abN ah3,
   f37,
   W.fnOf "__init__" "Not.__init__" (ak cu) (aj cu) (aa cu) .none ah4 ah5 ah6 afO abO ah7,
   f38,
   W.fnOf "atoms" "Not.atoms" (ak cH) (aj cH) (aa cH) .none ah8 ah9 aia afP abP aib,
   f39,
   W.fnOf "settled" "Not.settled" (ak bN) (aj bN) (aa bN) .none aic aid aie afQ abQ aif,
   f40,
   W.fnOf "sure" "Not.sure" (ak cX) (aj cX) (aa cX) .none aih aii aij afR abR aik,
   f41,
   W.fnOf "range_in" "range_in" (ak dZ) (aj dZ) (aa dZ) .none ail aim ain afS abS aio,
   f42,
   W.fnOf "cut_out" "cut_out" (ak fK) (aj fK) (aa fK) .none aip aiq air afT abT ais,
   f43,
   W.fnOf "cut_of" "cut_of" (ak gP) (aj gP) (aa gP) .none ait aiu aiv afU abU aiw,
   f44,
   W.fnOf "__init__" "ByBox.__init__" (ak bH) (aj bH) (aa bH) .none aix aiy aiz afV abV aiA,
   f45,
   W.fnOf "split_at" "ByBox.split_at" (ak bc) (aj bc) (aa bc) .none aiB aiC aiD afW abW aiE,
   f46,
   W.fnOf "things_of" "ByBox.things_of" (ak aU) (aj aU) (aa aU) .none aiF aiG aiH afX abX aiI,
   f47,
   W.fnOf "put" "ByBox.put" (ak cI) (aj cI) (aa cI) .none aiJ aiK aiL afY abY aiM,
   f48,
   W.fnOf "span_of" "ByBox.span_of" (ak bw) (aj bw) (aa bw) .none aiN aiO aiP afZ abZ aiQ,
   f49,
   W.fnOf "is_so" "ByBox.is_so" (ak aK) (aj aK) (aa aK) .none aiR aiS aiT af0 Yn aiU,
   f50,
   W.fnOf "split_by" "ByBox.split_by" (ak bf) (aj bf) (aa bf) .none aiV aiW aiX af1 ab0 aiY,
   f51,
   W.fnOf "going_by" "going_by" (ak d7) (aj d7) (aa d7) .none aiZ ai0 ai1 af2 ab1 ai2,
   f52,
   W.fnOf "ranges_of" "ranges_of" (ak dF) (aj dF) (aa dF) .none ai3 ai4 ai5 af3 ab2 ai6,
   f53,
   W.fnOf "narrowed" "narrowed" (ak d8) (aj d8) (aa d8) .none ai7 ai8 ai9 af4 ab3 aja,
   f54,
   W.fnOf "parts_of" "parts_of" (ak d9) (aj d9) (aa d9) .none ajb ajc ajd af5 ab4 aje,
   f55,
   W.fnOf "cover" "cover" (ak jF) (aj jF) (aa jF) (.ref abl) ajf ajg ajh af6 ab5 aji,
   [(.int 64 VL),.none],
   f56,
   W.fnOf "_law_cell" "_law_cell" (ak eE) (aj eE) (aa eE) .none ajj ajk ajl af7 ab6 ajm,
   f57,
   W.fnOf "_law_name" "_law_name" (ak eF) (aj eF) (aa eF) .none ajn ajo ajp af8 ab7 ajq,
   f58,
   W.fnOf "_law_kind" "_law_kind" (ak eG) (aj eG) (aa eG) .none ajr ajs ajt af9 ab8 aju,
   f59,
   W.fnOf "_law_object" "_law_object" (ak cY) (aj cY) (aa cY) .none ajv ajw ajx aga ab9 ajy,
   f60,
   W.fnOf "_law_three" "_law_three" (ak dG) (aj dG) (aa dG) .none ajz ajA ajB agb aca ajC,
   f61,
   W.fnOf "_law_cut" "_law_cut" (ak fL) (aj fL) (aa fL) .none ajD ajE ajF agc acb ajG,
   f62,
   W.fnOf "_law_alike" "_law_alike" (ak dH) (aj dH) (aa dH) .none ajH ajI ajJ agd acd ajK,
   f63,
   W.fnOf "_law_range" "_law_range" (ak dI) (aj dI) (aa dI) .none ajL ajM ajN age ace ajO,
   f64,
   W.fnOf "_law_atom" "_law_atom" (ak eN) (aj eN) (aa eN) .none ajP ajQ ajR agf acf ajS,
   f65,
   W.fnOf "_law_saying" "_law_saying" (ak cZ) (aj cZ) (aa cZ) .none ajT ajU ajV agg acg ajW,
   f66,
   W.fnOf "_law_leaf" "_law_leaf" (ak eO) (aj eO) (aa eO) .none ajX ajY ajZ agh ach aj0,
   f67,
   W.fnOf "_law_nodes" "_law_nodes" (ak dJ) (aj dJ) (aa dJ) .none aj1 aj2 aj3 agi aci aj4,
   f68,
   W.fnOf "law" "law" (ak vM) (aj vM) (aa vM) .none aj5 aj6 aj7 agj acj aj8,
   ga0,
   mV,
   aG,
   bh,
   fQ,
   jX,
   yx,
   dU,
   cO,
   ji,
   gw,
   cU,
   Hq,
   Fb,
   fU,
   dj,
   bV⟩,⟨ao (st:=bK) h01 h02 h03,
   (ao (st:=bK) h01 h02 h03).binds (ps:=["self","low","high"]) (fun _ _ _ _ _ _ us hl=>Mj us hl fun _ _ _=>rfl),
   ao (st:=bz) h05 h06 h07,
   (ao (st:=bz) h05 h06 h07).binds (ps:=["self"]) (fun _ _ _ _ _ _ us hl=>V9 us hl fun _=>rfl),
   ao (st:=bW) h09 h0a h0b,
   (ao (st:=bW) h09 h0a h0b).binds (ps:=["self","thing"]) (fun _ _ _ _ _ _ us hl=>wO us hl fun _ _=>rfl),
   ao (st:=aO) h0d h0e h0f,
   (ao (st:=aO) h0d h0e h0f).binds (ps:=["self","text"]) (fun _ _ _ _ _ _ us hl=>wO us hl fun _ _=>rfl),
   ao (st:=bY) h0h h0i h0j,
   (ao (st:=bY) h0h h0i h0j).binds (ps:=["self","answer"]) (fun _ _ _ _ _ _ us hl=>wO us hl fun _ _=>rfl),
   ao (st:=bL) h0l h0m h0n,
   (ao (st:=bL) h0l h0m h0n).binds (ps:=["self","words"]) (fun _ _ _ _ _ _ us hl=>wO us hl fun _ _=>rfl),
   ao (st:=cF) h0p h0q h0r,
   (ao (st:=cF) h0p h0q h0r).binds (ps:=["self","thing"]) (fun _ _ _ _ _ _ us hl=>wO us hl fun _ _=>rfl),
   ao (st:=aX) h0t h0u h0v,
   (ao (st:=aX) h0t h0u h0v).binds (ps:=["self","text"]) (fun _ _ _ _ _ _ us hl=>wO us hl fun _ _=>rfl),
   ao (st:=cG) h0x h0y h0z,
   (ao (st:=cG) h0x h0y h0z).binds (ps:=["self","answer"]) (fun _ _ _ _ _ _ us hl=>wO us hl fun _ _=>rfl),
   (jE (st:=bA) h11 h12 h13 h14),
   (jE (st:=bA) h11 h12 h13 h14).binds (es:=[]) (fun T _ _ _ _ _ _ us M A E Q s to n ht hc hd hl hq=>wO us (rZ (m:=2) hl rfl) (fun _ _ hq=>BindsTo.of_defaults rfl ht hd rfl rfl M A E Q hq) hq),
   ao (st:=bZ) h16 h17 h18,
   (ao (st:=bZ) h16 h17 h18).binds (ps:=["self","name"]) (fun _ _ _ _ _ _ us hl=>wO us hl fun _ _=>rfl),
   (jE (st:=bJ) h1a h1b h1c h1d),
   (jE (st:=bJ) h1a h1b h1c h1d).binds (es:=[]) (fun T _ _ _ _ _ _ us M A E Q s to n ht hc hd hl hq=>VJ us (rZ (m:=4) hl rfl) (fun _ _ _ _ hq=>BindsTo.of_defaults rfl ht hd rfl rfl M A E Q hq) hq),
   (jE (st:=bJ) h1a h1b h1c h1d).binds (fun T _ _ _ _ _ _ us M A E Q s to n ht hc hd hl hq=>Mj us (rZ (m:=3) hl rfl) (fun _ _ _ hq=>BindsTo.of_defaults rfl ht hd rfl rfl M A E Q hq) hq),
   .cons rfl (.nil),
   ao (st:=bB) h1f h1g h1h,
   (ao (st:=bB) h1f h1g h1h).binds (ps:=["self","name","each","rows","ways"]) (fun _ _ _ _ _ _ us hl=>el5 us hl fun _ _ _ _ _=>rfl),
   ao (st:=bC) h1j h1k h1l,
   (ao (st:=bC) h1j h1k h1l).binds (ps:=["self","name","sheets","totals"]) (fun _ _ _ _ _ _ us hl=>VJ us hl fun _ _ _ _=>rfl),
   ao (st:=dX) h1n h1o h1p,
   (ao (st:=dX) h1n h1o h1p).binds (ps:=["paper"]) (fun _ _ _ _ _ _ us hl=>V9 us hl fun _=>rfl),
   h1p,
   W.mg_of X G h1m,
   ao (st:=dC) h1r h1s h1t,
   (ao (st:=dC) h1r h1s h1t).binds (ps:=["paper"]) (fun _ _ _ _ _ _ us hl=>V9 us hl fun _=>rfl),
   h1t,
   W.mg_of X G h1q,
   ao (st:=b7) h1v h1w h1x,
   (ao (st:=b7) h1v h1w h1x).binds (ps:=["paper"]) (fun _ _ _ _ _ _ us hl=>V9 us hl fun _=>rfl),
   h1x,
   W.mg_of X G h1u,
   ao (st:=bD) h1z h20 h21,
   (ao (st:=bD) h1z h20 h21).binds (ps:=["self","paper","alone"]) (fun _ _ _ _ _ _ us hl=>Mj us hl fun _ _ _=>rfl),
   ao (st:=b8) h23 h24 h25,
   (ao (st:=b8) h23 h24 h25).binds (ps:=["self","question","thing","known"]) (fun _ _ _ _ _ _ us hl=>VJ us hl fun _ _ _ _=>rfl),
   ao (st:=aP) h27 h28 h29,
   (ao (st:=aP) h27 h28 h29).binds (ps:=["self","question","thing"]) (fun _ _ _ _ _ _ us hl=>Mj us hl fun _ _ _=>rfl),
   ao (st:=aY) h2b h2c h2d,
   (ao (st:=aY) h2b h2c h2d).binds (ps:=["self","question","thing"]) (fun _ _ _ _ _ _ us hl=>Mj us hl fun _ _ _=>rfl),
   ao (st:=aQ) h2f h2g h2h,
   (ao (st:=aQ) h2f h2g h2h).binds (ps:=["self","row"]) (fun _ _ _ _ _ _ us hl=>wO us hl fun _ _=>rfl),
   ao (st:=aL) h2j h2k h2l,
   (ao (st:=aL) h2j h2k h2l).binds (ps:=["self","sheet","thing"]) (fun _ _ _ _ _ _ us hl=>Mj us hl fun _ _ _=>rfl),
   ao (st:=aM) h2n h2o h2p,
   (ao (st:=aM) h2n h2o h2p).binds (ps:=["self","sheet"]) (fun _ _ _ _ _ _ us hl=>wO us hl fun _ _=>rfl),
   ao (st:=bM) h2r h2s h2t,
   (ao (st:=bM) h2r h2s h2t).binds (ps:=["self","place"]) (fun _ _ _ _ _ _ us hl=>wO us hl fun _ _=>rfl),
   ao (st:=cV) h2v h2w h2x,
   (ao (st:=cV) h2v h2w h2x).binds (ps:=["self"]) (fun _ _ _ _ _ _ us hl=>V9 us hl fun _=>rfl),
   ao (st:=dY) h2z h30 h31,
   (ao (st:=dY) h2z h30 h31).binds (ps:=["rank","how","number"]) (fun _ _ _ _ _ _ us hl=>Mj us hl fun _ _ _=>rfl),
   h31,
   W.mg_of X G h2y,
   ao (st:=bj) h33 h34 h35,
   (ao (st:=bj) h33 h34 h35).binds (ps:=["span","how","number"]) (fun _ _ _ _ _ _ us hl=>Mj us hl fun _ _ _=>rfl),
   h35,
   W.mg_of X G h32,
   ao (st:=aH) h37 h38 h39,
   (ao (st:=aH) h37 h38 h39).binds (ps:=["self","look"]) (fun _ _ _ _ _ _ us hl=>wO us hl fun _ _=>rfl),
   (jE (st:=cg) h3b h3c h3d h3e),
   (jE (st:=cg) h3b h3c h3d h3e).binds (es:=[]) (fun T _ _ _ _ _ _ us M A E Q s to n ht hc hd hl hq=>VJ us (rZ (m:=4) hl rfl) (fun _ _ _ _ hq=>BindsTo.of_defaults rfl ht hd rfl rfl M A E Q hq) hq),
   (jE (st:=cg) h3b h3c h3d h3e).binds (fun T _ _ _ _ _ _ us M A E Q s to n ht hc hd hl hq=>Mj us (rZ (m:=3) hl rfl) (fun _ _ _ hq=>BindsTo.of_defaults rfl ht hd rfl rfl M A E Q hq) hq),
   .cons rfl (.nil),
   ao (st:=cW) h3g h3h h3i,
   (ao (st:=cW) h3g h3h h3i).binds (ps:=["self"]) (fun _ _ _ _ _ _ us hl=>V9 us hl fun _=>rfl),
   ao (st:=cj) h3k h3l h3m,
   (ao (st:=cj) h3k h3l h3m).binds (ps:=["self","kinds"]) (fun _ _ _ _ _ _ us hl=>wO us hl fun _ _=>rfl),
   ao (st:=dD) h3o h3p h3q,
   (ao (st:=dD) h3o h3p h3q).binds (ps:=["self","look"]) (fun _ _ _ _ _ _ us hl=>wO us hl fun _ _=>rfl),
   ao (st:=aZ) h3s h3t h3u,
   (ao (st:=aZ) h3s h3t h3u).binds (ps:=["self","name","how","number"]) (fun _ _ _ _ _ _ us hl=>VJ us hl fun _ _ _ _=>rfl),
   ao (st:=bu) h3w h3x h3y,
   (ao (st:=bu) h3w h3x h3y).binds (ps:=["self"]) (fun _ _ _ _ _ _ us hl=>V9 us hl fun _=>rfl),
   ao (st:=aR) h40 h41 h42,
   (ao (st:=aR) h40 h41 h42).binds (ps:=["self","kinds"]) (fun _ _ _ _ _ _ us hl=>wO us hl fun _ _=>rfl),
   ao (st:=bG) h44 h45 h46,
   (ao (st:=bG) h44 h45 h46).binds (ps:=["self","look"]) (fun _ _ _ _ _ _ us hl=>wO us hl fun _ _=>rfl),
   ao (st:=cu) h48 h49 h4a,
   (ao (st:=cu) h48 h49 h4a).binds (ps:=["self","test"]) (fun _ _ _ _ _ _ us hl=>wO us hl fun _ _=>rfl),
   ao (st:=cH) h4c h4d h4e,
   (ao (st:=cH) h4c h4d h4e).binds (ps:=["self"]) (fun _ _ _ _ _ _ us hl=>V9 us hl fun _=>rfl),
   ao (st:=bN) h4g h4h h4i,
   (ao (st:=bN) h4g h4h h4i).binds (ps:=["self","kinds"]) (fun _ _ _ _ _ _ us hl=>wO us hl fun _ _=>rfl),
   ao (st:=cX) h4k h4l h4m,
   (ao (st:=cX) h4k h4l h4m).binds (ps:=["self","look"]) (fun _ _ _ _ _ _ us hl=>wO us hl fun _ _=>rfl),
   ao (st:=dZ) h4o h4p h4q,
   (ao (st:=dZ) h4o h4p h4q).binds (ps:=["box","kinds","question","k"]) (fun _ _ _ _ _ _ us hl=>VJ us hl fun _ _ _ _=>rfl),
   h4q,
   W.mg_of X G h4n,
   ao (st:=fK) h4s h4t h4u,
   (ao (st:=fK) h4s h4t h4u).binds (ps:=["number","low"]) (fun _ _ _ _ _ _ us hl=>wO us hl fun _ _=>rfl),
   h4u,
   W.mg_of X G h4r,
   ao (st:=gP) h4w h4x h4y,
   (ao (st:=gP) h4w h4x h4y).binds (ps:=["atom","low"]) (fun _ _ _ _ _ _ us hl=>wO us hl fun _ _=>rfl),
   h4y,
   W.mg_of X G h4v,
   ao (st:=bH) h50 h51 h52,
   (ao (st:=bH) h50 h51 h52).binds (ps:=["self","paper","box"]) (fun _ _ _ _ _ _ us hl=>Mj us hl fun _ _ _=>rfl),
   ao (st:=bc) h54 h55 h56,
   (ao (st:=bc) h54 h55 h56).binds (ps:=["self","question","thing","cut"]) (fun _ _ _ _ _ _ us hl=>VJ us hl fun _ _ _ _=>rfl),
   ao (st:=aU) h58 h59 h5a,
   (ao (st:=aU) h58 h59 h5a).binds (ps:=["self","sheet"]) (fun _ _ _ _ _ _ us hl=>wO us hl fun _ _=>rfl),
   ao (st:=cI) h5c h5d h5e,
   (ao (st:=cI) h5c h5d h5e).binds (ps:=["self","question","thing"]) (fun _ _ _ _ _ _ us hl=>Mj us hl fun _ _ _=>rfl),
   ao (st:=bw) h5g h5h h5i,
   (ao (st:=bw) h5g h5h h5i).binds (ps:=["self","name","thing"]) (fun _ _ _ _ _ _ us hl=>Mj us hl fun _ _ _=>rfl),
   ao (st:=aK) h5k h5l h5m,
   (ao (st:=aK) h5k h5l h5m).binds (ps:=["self","saying","thing"]) (fun _ _ _ _ _ _ us hl=>Mj us hl fun _ _ _=>rfl),
   ao (st:=bf) h5o h5p h5q,
   (ao (st:=bf) h5o h5p h5q).binds (ps:=["self","atom","thing"]) (fun _ _ _ _ _ _ us hl=>Mj us hl fun _ _ _=>rfl),
   ao (st:=d7) h5s h5t h5u,
   (ao (st:=d7) h5s h5t h5u).binds (ps:=["paper","box"]) (fun _ _ _ _ _ _ us hl=>wO us hl fun _ _=>rfl),
   h5u,
   W.mg_of X G h5r,
   ao (st:=dF) h5w h5x h5y,
   (ao (st:=dF) h5w h5x h5y).binds (ps:=["log","box","kinds"]) (fun _ _ _ _ _ _ us hl=>Mj us hl fun _ _ _=>rfl),
   h5y,
   W.mg_of X G h5v,
   ao (st:=d8) h60 h61 h62,
   (ao (st:=d8) h60 h61 h62).binds (ps:=["box","question","k","span"]) (fun _ _ _ _ _ _ us hl=>VJ us hl fun _ _ _ _=>rfl),
   h62,
   W.mg_of X G h5z,
   ao (st:=d9) h64 h65 h66,
   (ao (st:=d9) h64 h65 h66).binds (ps:=["box","kinds","question","k","cut"]) (fun _ _ _ _ _ _ us hl=>el5 us hl fun _ _ _ _ _=>rfl),
   h66,
   W.mg_of X G h63,
   (jE (st:=jF) h68 h69 h6a h6b),
   (jE (st:=jF) h68 h69 h6a h6b).binds (es:=[]) (fun T _ _ _ _ _ _ us M A E Q s to n ht hc hd hl hq=>Mj us (rZ (m:=3) hl rfl) (fun _ _ _ hq=>BindsTo.of_defaults rfl ht hd rfl rfl M A E Q hq) hq),
   h6a,
   W.mg_of X G h67,
   ao (st:=eE) h6d h6e h6f,
   (ao (st:=eE) h6d h6e h6f).binds (ps:=["_law_script","_law_k"]) (fun _ _ _ _ _ _ us hl=>wO us hl fun _ _=>rfl),
   h6f,
   W.mg_of X G h6c,
   ao (st:=eF) h6h h6i h6j,
   (ao (st:=eF) h6h h6i h6j).binds (ps:=["_law_script","_law_k"]) (fun _ _ _ _ _ _ us hl=>wO us hl fun _ _=>rfl),
   h6j,
   W.mg_of X G h6g,
   ao (st:=eG) h6l h6m h6n,
   (ao (st:=eG) h6l h6m h6n).binds (ps:=["_law_cell_here"]) (fun _ _ _ _ _ _ us hl=>V9 us hl fun _=>rfl),
   h6n,
   W.mg_of X G h6k,
   ao (st:=cY) h6p h6q h6r,
   (ao (st:=cY) h6p h6q h6r).binds (ps:=["_law_kind_here"]) (fun _ _ _ _ _ _ us hl=>V9 us hl fun _=>rfl),
   h6r,
   W.mg_of X G h6o,
   ao (st:=dG) h6t h6u h6v,
   (ao (st:=dG) h6t h6u h6v).binds (ps:=["_law_how","_law_low","_law_high","_law_number"]) (fun _ _ _ _ _ _ us hl=>VJ us hl fun _ _ _ _=>rfl),
   h6v,
   W.mg_of X G h6s,
   ao (st:=fL) h6x h6y h6z,
   (ao (st:=fL) h6x h6y h6z).binds (ps:=["_law_how","_law_low","_law_number"]) (fun _ _ _ _ _ _ us hl=>Mj us hl fun _ _ _=>rfl),
   h6z,
   W.mg_of X G h6w,
   ao (st:=dH) h71 h72 h73,
   (ao (st:=dH) h71 h72 h73).binds (ps:=["_law_found","_law_due"]) (fun _ _ _ _ _ _ us hl=>wO us hl fun _ _=>rfl),
   h73,
   W.mg_of X G h70,
   ao (st:=dI) h75 h76 h77,
   (ao (st:=dI) h75 h76 h77).binds (ps:=["_law_script","_law_kind_here"]) (fun _ _ _ _ _ _ us hl=>wO us hl fun _ _=>rfl),
   h77,
   W.mg_of X G h74,
   ao (st:=eN) h79 h7a h7b,
   (ao (st:=eN) h79 h7a h7b).binds (ps:=["_law_script","_law_kind_here","_law_low","_law_high"]) (fun _ _ _ _ _ _ us hl=>VJ us hl fun _ _ _ _=>rfl),
   h7b,
   W.mg_of X G h78,
   ao (st:=cZ) h7d h7e h7f,
   (ao (st:=cZ) h7d h7e h7f).binds (ps:=["_law_script","_law_name_here","_law_kind_here","_law_atom_here"]) (fun _ _ _ _ _ _ us hl=>VJ us hl fun _ _ _ _=>rfl),
   h7f,
   W.mg_of X G h7c,
   ao (st:=eO) h7h h7i h7j,
   (ao (st:=eO) h7h h7i h7j).binds (ps:=["_law_names","_law_known","_law_denied","_law_low","_law_high"]) (fun _ _ _ _ _ _ us hl=>el5 us hl fun _ _ _ _ _=>rfl),
   h7j,
   W.mg_of X G h7g,
   ao (st:=dJ) h7l h7m h7n,
   (ao (st:=dJ) h7l h7m h7n).binds (ps:=["_law_names","_law_atom_here","_law_denied","_law_span","_law_most"]) (fun _ _ _ _ _ _ us hl=>el5 us hl fun _ _ _ _ _=>rfl),
   h7n,
   W.mg_of X G h7k,
   ao (st:=vM) h7p h7q h7r,
   W.mg_of X G h7o,
   W.mg_of X G h7s,
   WN h7t h7u h7v h7w h7x h7y,
   W.mg_none_of X G h7z,
   W.mg_none_of X G h80,
   W.mg_none_of X G h81,
   W.mg_none_of X G h82,
   W.mg_none_of X G h83,
   W.mg_none_of X G h84,
   W.mg_none_of X G h85,
   W.mg_none_of X G h86,
   W.mg_none_of X G h87,
   W.mg_none_of X G h88,
   W.mg_none_of X G h89,
   W.mg_none_of X G h8a,
   L2.fj (by symm),
   L2.fj (by symm),
   L2.fj (by symm),
   L2.fj (by symm),
   L2.fj (by symm),
   L2.fj (by symm),
   L2.fj (by symm),
   L2.fj (by symm),
   L2.fj (by symm),
   L2.fj (by symm),
   L2.fj (by symm),
   L2.fj (by symm),
   L2.fj (by symm),
   L2.fj (by symm),
   L2.fj (by symm),
   L2.fj (by symm),
   L2.fj (by symm),
   L2.fj (by symm),
   L2.fj (by symm),
   W.mg_of X G h8b,
   ⟨_,W.mg_of X G h8b,rfl⟩,
   W.mg_of X G h8c,
   W.mg_of X G h8d,
   W.mg_of X G h8e,
   W.mg_of X G h8f,
   ⟨_,W.mg_of X G h8f,rfl⟩,
   W.mg_of X G h8g,
   W.mg_of X G h8h,
   W.mg_of X G h8i,
   ⟨_,W.mg_of X G h8i,rfl⟩,
   W.mg_of X G h8j,
   W.mg_of X G h8k,
   W.mg_of X G h8l,
   ⟨_,W.mg_of X G h8l,rfl⟩,
   W.mg_of X G h8m,
   W.mg_of X G h8o,
   W.mg_of X G h8p,
   ⟨_,W.mg_of X G h8p,rfl⟩,
   W.mg_of X G h8q,
   ⟨_,W.mg_of X G h8q,rfl⟩,
   oO,
   oO,
   pq h8v h8w h91 h92,
   pq h8z h90 h93 h94,
   oO,
   oO,
   pq h8t h8u h95 h96,
   pq h8x h8y h97 h98,
   pq h8t h8u h99 h9a,
   pq h8x h8y h9b h9c,
   oO,
   oO,
   pq h8r h8s h9d h9e,
   ⟨h9f,h9g,h9h,h9i⟩,
   fun _ _ _ _ e=>.ins e ⟨h9f,h9g,h9h,h9i⟩ h9j h9k h9l h9m,
   ⟨h9n,h9o,h9p,h9q⟩,
   ⟨h9r,h9s,h0b⟩,
   ⟨h9t,h9u,h0f⟩,
   ⟨h9v,h9w,h0j⟩,
   h9x,
   h9y,
   ⟨h9z,ha0,ha1,ha2⟩,
   fun _ _ _ _ e=>.ins e ⟨h9z,ha0,ha1,ha2⟩ ha3 ha4 ha5 ha6,
   ⟨ha7,ha8,ha9,haa⟩,
   hab,
   hac,
   ⟨had,hae,haf,hag⟩,
   fun _ _ _ _ e=>.ins e ⟨had,hae,haf,hag⟩ hah hai haj hak,
   ⟨hal,ham,han,hao⟩,
   hap,
   haq,
   ⟨har,has,hat,hau⟩,
   fun _ _ _ _ e=>.ins e ⟨har,has,hat,hau⟩ hav haw hax hay,
   ⟨haz,hb0,hb1,hb2⟩,
   hb3,
   hb4,
   ⟨Zg,V7,hb7,hb8⟩,
   fun _ _ _ _ e=>.ins e ⟨Zg,V7,hb7,hb8⟩ hb9 hba hbb hbc,
   ⟨hbd,hbe,hbf,hbg⟩,
   ⟨hbh,hbi,h0r⟩,
   ⟨hbj,hbk,h0v⟩,
   ⟨YF,hbm,h0z⟩,
   hbn,
   hbo,
   hbp,
   ⟨hbq,hbr,hbs,hbt⟩,
   fun _ _ _ _ e=>.ins e ⟨hbq,hbr,hbs,hbt⟩ hbu hbv hbw hbx,
   ⟨hby,hbz,hc0,hc1⟩,
   hc2,
   hc3,
   hc4,
   ⟨hc5,hc6,hc7,hc8⟩,
   ⟨hc9,hca,hcb,hcc⟩,
   hcd,
   hce,
   hcf,
   hcg,
   ⟨hch,hci,hcj,hck⟩,
   ⟨hcl,hcm,hcn,hco⟩,
   hcp,
   hcq,
   hcr,
   ⟨hcs,hct,hcu,hcv⟩,
   ⟨hcw,hcx,hcy,hcz⟩,
   ⟨hd0,hd1,h5a⟩,
   ⟨hd2,hd3,h5e⟩,
   ⟨hd4,hd5,h5m⟩,
   ⟨hd6,hd7,h25⟩,
   ⟨hd8,hd9,h2h⟩,
   ⟨hda,hdb,h2l⟩,
   ⟨hdc,hdd,h2p⟩,
   ⟨hde,hdf,h2t⟩,
   ⟨hdg,hdh,h2x⟩,
   ⟨hdi,hdj,h29⟩,
   ⟨hdk,hdl,h2d⟩,
   ⟨hdm,hdn,h5i⟩,
   ⟨hdo,hdp,h56⟩,
   ⟨hdq,hdr,h5q⟩,
   hds,
   hdt,
   hdu,
   hdv,
   hdw,
   hdx,
   hdy,
   hdz,
   he0,
   he1,
   he2,
   ⟨he3,he4,he5,he6⟩,
   fun _ _ _ _ e=>.ins e ⟨he3,he4,he5,he6⟩ he7 he8 he9 hea,
   ⟨heb,hec,hed,hee⟩,
   ⟨hef,heg,h3m⟩,
   ⟨heh,hei,h3q⟩,
   ⟨hej,hek,h3i⟩,
   ⟨hel,hem,h39⟩,
   hen,
   heo,
   hep,
   ⟨heq,her,hes,het⟩,
   fun _ _ _ _ e=>.ins e ⟨heq,her,hes,het⟩ heu hev hew hex,
   ⟨hey,hez,hf0,hf1⟩,
   ⟨hf2,hf3,h42⟩,
   ⟨hf4,hf5,h46⟩,
   ⟨hf6,hf7,h3y⟩,
   ⟨hf8,hf9,h39⟩,
   hfa,
   hfb,
   hfc,
   ⟨hfd,hfe,hff,hfg⟩,
   ⟨hfh,hfi,hfj,hfk⟩,
   ⟨hfl,hfm,h4i⟩,
   ⟨hfn,hfo,h4m⟩,
   ⟨hfp,hfq,h4e⟩,
   ⟨hfr,hfs,h39⟩,
   hft,
   ⟨hfu,hfv,hfw,h21⟩,
   ⟨hfx,hfy,hfz,h03⟩,
   ⟨hg0,hg1,hg2,h18⟩⟩,mc,mP,mk1,mk4,mk5,mk6⟩
theorem walk {l:W.OpenLaw}{q:Program}{loose:List Str}{XP:(Str→Option Value)→Heap→Prop}{YP:World→Heap→Prop}{d:DefRec}{K:Params→W.Frag} (hn:l.most=some 63) (hdf:d.params.defaults=[]) (hnm:d.name="law")
   (hY:∀ (w:World) (h:Heap),YP w h→(K w.params).In h)
   (F:∀ (w:World) (mg:Str→Option Value) (h:Heap),YP w h→(K w.params).In h→h.Ns mainGlobals mg→∃ A:cT,Txt (K w.params) mg A∧∃ c P,A.aW.code=.ref c∧W.codeHdIn (K w.params) c P=true∧(K w.params).lookup P=none∧h.get? P=some (W.tabObj #[])) :
   W.WalkO q loose XP YP l.row.toRowW d [] (fun f vs=>PySem.call f vs):=by
 refine L2.Tp (ps:=eZ DL.qual Q3) ⟨_,_,_,rfl⟩ (n:=63) (k:=40) (x:="_law_script") (CX:=fun _=>bR) (sp:=fun Pt w=>Vw (K w.params) Pt) hn (by decide) hdf ⟨rfl,by decide,by decide⟩ hY (fun w mg fa h Y KX G hmg=>?_) (fun Pt w H a ns hl hb hO hS=>⟨a,ns,rfl,hS,hl,hb,hO.1,fun _=>rfl⟩) fun _ _ _ _ _ z=>z
 obtain⟨A,T,c,Pt,m1,m2,m3,m4⟩:=F w mg h Y KX G
 rw [hnm] at hmg
 have e:=hmg.symm.trans T.adW
 cases e
 obtain⟨oc,od,kV,doc,pm,an,cdv,ct,osl,efd,lk,hcd⟩:=id T.YQ.ex
 exact⟨c,Pt,A.T3,m2,m4,m3,fun s v=>by rw [efd];exact .of_eq rfl,fun base _ _ B=>abe T B m1 m2⟩
end j4
open PySem PySem.W PyProof.Rows
set_option maxRecDepth 100000 in
set_option maxHeartbeats 0 in
theorem PySem.Challenge.cw_askpaper_k51_one_atom_holds : PySem.Challenge.rw_askpaper_k51_one_atom.Holds := by
 refine PySem.Challenge.hd51 ?_
 k_fill
 refine j4.walk (l := PySem.Challenge.rw_askpaper_k51_one_atom) rfl rfl rfl (fun w h Y => W.km_in_of Y) ?F
 case F =>
   intro w mg h Y KX G
   have T : ∃ A : j4.cT, j4.Txt (L2.KOf KX) mg A ∧ ∃ c P, A.aW.code = .ref c ∧ W.codeHdIn (L2.KOf KX) c P = true ∧ (L2.KOf KX).lookup P = none ∧ h.get? P = some (W.tabObj #[]) := by
     dsimp only [L2.KOf]
     refine' j4.abi KX G ?h8b ?h8c ?h8d ?h8e ?h8f ?h8g ?h8h ?h8i ?h8j ?h8k ?h8l ?h8m ?h8n ?h8o ?h8p ?h8q ?h00 ?h01 ?h02 ?h03 ?h04 ?h05 ?h06 ?h07 ?h08 ?h09 ?h0a ?h0b ?h0c ?h0d ?h0e ?h0f ?h0g ?h0h ?h0i ?h0j ?h0k ?h0l ?h0m ?h0n ?h0o ?h0p ?h0q ?h0r ?h0s ?h0t ?h0u ?h0v ?h0w ?h0x ?h0y ?h0z ?h10 ?h11 ?h12 ?h13 ?h14 ?h15 ?h16 ?h17 ?h18 ?h19 ?h1a ?h1b ?h1c ?h1d ?h1e ?h1f ?h1g ?h1h ?h1i ?h1j ?h1k ?h1l ?h1m ?h1n ?h1o ?h1p ?h1q ?h1r ?h1s ?h1t ?h1u ?h1v ?h1w ?h1x ?h1y ?h1z ?h20 ?h21 ?h22 ?h23 ?h24 ?h25 ?h26 ?h27 ?h28 ?h29 ?h2a ?h2b ?h2c ?h2d ?h2e ?h2f ?h2g ?h2h ?h2i ?h2j ?h2k ?h2l ?h2m ?h2n ?h2o ?h2p ?h2q ?h2r ?h2s ?h2t ?h2u ?h2v ?h2w ?h2x ?h2y ?h2z ?h30 ?h31 ?h32 ?h33 ?h34 ?h35 ?h36 ?h37 ?h38 ?h39 ?h3a ?h3b ?h3c ?h3d ?h3e ?h3f ?h3g ?h3h ?h3i ?h3j ?h3k ?h3l ?h3m ?h3n ?h3o ?h3p ?h3q ?h3r ?h3s ?h3t ?h3u ?h3v ?h3w ?h3x ?h3y ?h3z ?h40 ?h41 ?h42 ?h43 ?h44 ?h45 ?h46 ?h47 ?h48 ?h49 ?h4a ?h4b ?h4c ?h4d ?h4e ?h4f ?h4g ?h4h ?h4i ?h4j ?h4k ?h4l ?h4m ?h4n ?h4o ?h4p ?h4q ?h4r ?h4s ?h4t ?h4u ?h4v ?h4w ?h4x ?h4y ?h4z ?h50 ?h51 ?h52 ?h53 ?h54 ?h55 ?h56 ?h57 ?h58 ?h59 ?h5a ?h5b ?h5c ?h5d ?h5e ?h5f ?h5g ?h5h ?h5i ?h5j ?h5k ?h5l ?h5m ?h5n ?h5o ?h5p ?h5q ?h5r ?h5s ?h5t ?h5u ?h5v ?h5w ?h5x ?h5y ?h5z ?h60 ?h61 ?h62 ?h63 ?h64 ?h65 ?h66 ?h67 ?h68 ?h69 ?h6a ?h6b ?h6c ?h6d ?h6e ?h6f ?h6g ?h6h ?h6i ?h6j ?h6k ?h6l ?h6m ?h6n ?h6o ?h6p ?h6q ?h6r ?h6s ?h6t ?h6u ?h6v ?h6w ?h6x ?h6y ?h6z ?h70 ?h71 ?h72 ?h73 ?h74 ?h75 ?h76 ?h77 ?h78 ?h79 ?h7a ?h7b ?h7c ?h7d ?h7e ?h7f ?h7g ?h7h ?h7i ?h7j ?h7k ?h7l ?h7m ?h7n ?h7o ?h7p ?h7q ?h7r ?h7s ?h7t ?h7u ?h7v ?h7w ?h7x ?h7y ?h7z ?h80 ?h81 ?h82 ?h83 ?h84 ?h85 ?h86 ?h87 ?h88 ?h89 ?h8a ?h8r ?h8s ?h8t ?h8u ?h8v ?h8w ?h8x ?h8y ?h8z ?h90 ?h91 ?h92 ?h93 ?h94 ?h95 ?h96 ?h97 ?h98 ?h99 ?h9a ?h9b ?h9c ?h9d ?h9e ?h9f ?h9g ?h9h ?h9i ?h9j ?h9k ?h9l ?h9m ?h9n ?h9o ?h9p ?h9q ?h9r ?h9s ?h9t ?h9u ?h9v ?h9w ?h9x ?h9y ?h9z ?ha0 ?ha1 ?ha2 ?ha3 ?ha4 ?ha5 ?ha6 ?ha7 ?ha8 ?ha9 ?haa ?hab ?hac ?had ?hae ?haf ?hag ?hah ?hai ?haj ?hak ?hal ?ham ?han ?hao ?hap ?haq ?har ?has ?hat ?hau ?hav ?haw ?hax ?hay ?haz ?hb0 ?hb1 ?hb2 ?hb3 ?hb4 ?Zg ?V7 ?hb7 ?hb8 ?hb9 ?hba ?hbb ?hbc ?hbd ?hbe ?hbf ?hbg ?hbh ?hbi ?hbj ?hbk ?YF ?hbm ?hbn ?hbo ?hbp ?hbq ?hbr ?hbs ?hbt ?hbu ?hbv ?hbw ?hbx ?hby ?hbz ?hc0 ?hc1 ?hc2 ?hc3 ?hc4 ?hc5 ?hc6 ?hc7 ?hc8 ?hc9 ?hca ?hcb ?hcc ?hcd ?hce ?hcf ?hcg ?hch ?hci ?hcj ?hck ?hcl ?hcm ?hcn ?hco ?hcp ?hcq ?hcr ?hcs ?hct ?hcu ?hcv ?hcw ?hcx ?hcy ?hcz ?hd0 ?hd1 ?hd2 ?hd3 ?hd4 ?hd5 ?hd6 ?hd7 ?hd8 ?hd9 ?hda ?hdb ?hdc ?hdd ?hde ?hdf ?hdg ?hdh ?hdi ?hdj ?hdk ?hdl ?hdm ?hdn ?hdo ?hdp ?hdq ?hdr ?hds ?hdt ?hdu ?hdv ?hdw ?hdx ?hdy ?hdz ?he0 ?he1 ?he2 ?he3 ?he4 ?he5 ?he6 ?he7 ?he8 ?he9 ?hea ?heb ?hec ?hed ?hee ?hef ?heg ?heh ?hei ?hej ?hek ?hel ?hem ?hen ?heo ?hep ?heq ?her ?hes ?het ?heu ?hev ?hew ?hex ?hey ?hez ?hf0 ?hf1 ?hf2 ?hf3 ?hf4 ?hf5 ?hf6 ?hf7 ?hf8 ?hf9 ?hfa ?hfb ?hfc ?hfd ?hfe ?hff ?hfg ?hfh ?hfi ?hfj ?hfk ?hfl ?hfm ?hfn ?hfo ?hfp ?hfq ?hfr ?hfs ?hft ?hfu ?hfv ?hfw ?hfx ?hfy ?hfz ?hg0 ?hg1 ?hg2 ?mk1 ?mk2 ?mk3 ?mk4 ?mk5 ?mk6
     (case h8b|h8c|h8d|h8e|h8f|h8g|h8h|h8i|h8j|h8k|h8l|h8m|h8n|h8o|h8p|h8q|h00|h01|h02|h03|h04|h05|h06|h07|h08|h09|h0a|h0b|h0c|h0d|h0e|h0f|h0g|h0h|h0i|h0j|h0k|h0l|h0m|h0n|h0o|h0p|h0q|h0r|h0s|h0t|h0u|h0v|h0w|h0x|h0y|h0z|h10|h11|h12|h13|h14|h15|h16|h17|h18|h19|h1a|h1b|h1c|h1d|h1e|h1f|h1g|h1h|h1i|h1j|h1k|h1l|h1m|h1n|h1o|h1p|h1q|h1r|h1s|h1t|h1u|h1v|h1w|h1x|h1y|h1z|h20|h21|h22|h23|h24|h25|h26|h27|h28|h29|h2a|h2b|h2c|h2d|h2e|h2f|h2g|h2h|h2i|h2j|h2k|h2l|h2m|h2n|h2o|h2p|h2q|h2r|h2s|h2t|h2u|h2v|h2w|h2x|h2y|h2z|h30|h31|h32|h33|h34|h35|h36|h37|h38|h39|h3a|h3b|h3c|h3d|h3e|h3f|h3g|h3h|h3i|h3j|h3k|h3l|h3m|h3n|h3o|h3p|h3q|h3r|h3s|h3t|h3u|h3v|h3w|h3x|h3y|h3z|h40|h41|h42|h43|h44|h45|h46|h47|h48|h49|h4a|h4b|h4c|h4d|h4e|h4f|h4g|h4h|h4i|h4j|h4k|h4l|h4m|h4n|h4o|h4p|h4q|h4r|h4s|h4t|h4u|h4v|h4w|h4x|h4y|h4z|h50|h51|h52|h53|h54|h55|h56|h57|h58|h59|h5a|h5b|h5c|h5d|h5e|h5f|h5g|h5h|h5i|h5j|h5k|h5l|h5m|h5n|h5o|h5p|h5q|h5r|h5s|h5t|h5u|h5v|h5w|h5x|h5y|h5z|h60|h61|h62|h63|h64|h65|h66|h67|h68|h69|h6a|h6b|h6c|h6d|h6e|h6f|h6g|h6h|h6i|h6j|h6k|h6l|h6m|h6n|h6o|h6p|h6q|h6r|h6s|h6t|h6u|h6v|h6w|h6x|h6y|h6z|h70|h71|h72|h73|h74|h75|h76|h77|h78|h79|h7a|h7b|h7c|h7d|h7e|h7f|h7g|h7h|h7i|h7j|h7k|h7l|h7m|h7n|h7o|h7p|h7q|h7r|h7s|h7t => k_is)
     (case h7u => rfl)
     (case h7v => rfl)
     (case h7w => rfl)
     (case h7x => rfl)
     (case h7y => exact .cons rfl rfl (.cons rfl rfl (.nil)))
     (case h7z|h80|h81|h82|h83|h84|h85|h86|h87|h88|h89|h8a|h8r|h8s|h8t|h8u|h8v|h8w|h8x|h8y|h8z|h90|h91 => k_is)
     (case h92 => rfl)
     (case h93 => k_is)
     (case h94 => rfl)
     (case h95 => k_is)
     (case h96 => rfl)
     (case h97 => k_is)
     (case h98 => rfl)
     (case h99 => k_is)
     (case h9a => rfl)
     (case h9b => k_is)
     (case h9c => rfl)
     (case h9d => k_is)
     (case h9e => rfl)
     (case h9f|h9g|h9h|h9i|h9j|h9k|h9l|h9m|h9n|h9o|h9p|h9q|h9r|h9s|h9t|h9u|h9v|h9w|h9x|h9y|h9z|ha0|ha1|ha2|ha3|ha4|ha5|ha6|ha7|ha8|ha9|haa|hab|hac|had|hae|haf|hag|hah|hai|haj|hak|hal|ham|han|hao|hap|haq|har|has|hat|hau|hav|haw|hax|hay|haz|hb0|hb1|hb2|hb3|hb4|Zg|V7|hb7|hb8|hb9|hba|hbb|hbc|hbd|hbe|hbf|hbg|hbh|hbi|hbj|hbk|YF|hbm|hbn|hbo|hbp|hbq|hbr|hbs|hbt|hbu|hbv|hbw|hbx|hby|hbz|hc0|hc1|hc2|hc3|hc4|hc5|hc6|hc7|hc8|hc9|hca|hcb|hcc|hcd|hce|hcf|hcg|hch|hci|hcj|hck|hcl|hcm|hcn|hco|hcp|hcq|hcr|hcs|hct|hcu|hcv|hcw|hcx|hcy|hcz|hd0|hd1|hd2|hd3|hd4|hd5|hd6|hd7|hd8|hd9|hda|hdb|hdc|hdd|hde|hdf|hdg|hdh|hdi|hdj|hdk|hdl|hdm|hdn|hdo|hdp|hdq|hdr|hds|hdt|hdu|hdv|hdw|hdx|hdy|hdz|he0|he1|he2|he3|he4|he5|he6|he7|he8|he9|hea|heb|hec|hed|hee|hef|heg|heh|hei|hej|hek|hel|hem|hen|heo|hep|heq|her|hes|het|heu|hev|hew|hex|hey|hez|hf0|hf1|hf2|hf3|hf4|hf5|hf6|hf7|hf8|hf9|hfa|hfb|hfc|hfd|hfe|hff|hfg|hfh|hfi|hfj|hfk|hfl|hfm|hfn|hfo|hfp|hfq|hfr|hfs|hft|hfu|hfv|hfw|hfx|hfy|hfz|hg0|hg1|hg2 => k_is)
     (case mk1 => rfl)
     (case mk2 => k_is)
     (case mk3 => rfl)
     (case mk4 => kernel_rfl)
     (case mk5 => kernel_rfl)
     (case mk6 => exact W.km_tabs_of Y _ (by repeat (first | exact .head _ | apply List.Mem.tail)))
   exact T
