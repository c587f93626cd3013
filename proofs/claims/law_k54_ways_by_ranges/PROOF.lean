import PyProof.Rows.All
import OpenK.KLine
import OpenK.KWalk
import OpenK.KRaise
import Open.Line
import Wide.Line
import KE.IntBitsLaws
import KE.KIsAll
import KE.KTryMore
import KE.KNest
import KE.KNestM
import KE.KLam
import Wide.FinOn
import Lean
import PyProof.EqAt
import PyProof.EqKinds
import PyProof.TupleCall
import PyProof.ZipIter
import PyProof.Rows.ZipGen
import PyProof.EnumMake
import PyProof.EnumFor
import PyProof.EnumStmt
import KE.KDictOf
import PyProof.AttrMissHeap
import PyProof.NeKinds
import KE.KItem
import KE.KDictSum
import KE.KSortTup
import KE.KEqDict
import KE.KRevSl
import KE.KTabExpr
import KE.KPairComp
import PyProof.DictItems
import KE.KDictList
import PyProof.ListRange
import KE.KRevIter
import PyProof.Rows.TupDisplay
import PySem.Challenge.RW_askpaper_k54_ways_by_ranges
local macro_rules
 | `(‹$x:str›) => `((PySem.Str.ofString $x))
 | `(‹$x:ident›) => `((($x).mono (by first | decide | omega)))
 | `(‹0›) => `((by first | exact Or.inl rfl | exact Or.inr rfl))
local macro_rules | `(tactic| symm) => `(tactic| decide +kernel)
set_option Elab.async false
set_option linter.all false
set_option maxRecDepth 100000
open Lean in
local macro_rules
 | `(command| #print $s:str) => do
  let r := s.getString.toList.foldl (fun (r : Nat × Nat × Array Nat) c =>
   let n := r.2.1 * 62 + (if c.isDigit then c.toNat - 48 else if c.isUpper then c.toNat - 55 else c.toNat - 61)
   if r.1 == 10 then (0, 0, r.2.2.push n) else (r.1 + 1, n, r.2.2)) (0, 0, #[])
  return mkNullNode (← r.2.2.mapM fun n => do `(command| def $(mkIdent (.mkSimple s!"tw{n}")) := Nat))
namespace PySem.W.Fast
#print "BuvprF1RL8PBvwJDEXxuBQ1C2nfTMI5yPBwhBww2lJf3BxAYphadCi8By1F2B6xMKLByMl3jDAQLwC0GEmM4GtfVC0mfJwMyNdqC5Z3uHzJ1YcC67GA9R46JiC79niB42JqwC81a2PnVwIsC8BC4ebXQf1C9JmoNAEl6RCBYkQtnAEWCCDCZNVgpXO8CDaaZFIN4D9CDi4S8mNBLuCGvgScg5HCRCI2RXInvPNbCITPPXIUedMCKeFY5qo7jwCNHH5Br1eULCO70qnrAVaECOaviqv8b3ZCPMpo1EXUitCVf1pLqNethCYfp9bKkbIsCZSYCSK0u7vCbWuvPIL9i5CcRqhIoT3hm1GKWHlAsJm9CePziivfRtCCfEkiqmLlSoCfdXAO4N8FkCgdXfLXz8pq1Gj7bZnTSMQChvMDlGyyzE1GzcUTViJMW1H0520OPU5wCkknhsNHXTZCm4VrwnPNNrCmig1d7C2TdCn4GbPthkscCnUKXNAAyvmCoeGNIstPOpCpvbHG1BfXBCpvruaJYDGiCqvFl3qXGIgCuFGSkZCKDVCxORrMXW2KOCxzviKy0Kc5CyVwE8AeTUpD1OWbx0fbrHD1Y00TlU0zFD1hWONSWyDdD2uMo4Wn2v3D48Y7kbFbXrD4CJdpaQvFsD4DyceAYZzOD5Yj0HjNfzlD5gPbg7JqToD6HY5zfEPgyD6W7rKyOCw0D7b0xrGJFNKD9JcnYzCsxm1Jip5OeIMi8DByXAjYLfHODC2dwGbshlhDD50WUNGo2dDEglIKAekkVDF5mZmozp3CDGGxPjX2s8hDJFvnxZUtjXDKMa2voDzOVDKuu1YKhw54DL3fd0MyEMTDN0iDQNSDOhDPWOEtYI9AxDRDTps7bYbd1LRfscfXCB1DTv1yWBAYEp1LuAHz8mF8dDXISNrW2NTZDXdE6QbJosnDZwHUSV634d1ME6oogCp7ZDaSwIRQm1LYDas3nzGbORM1MKsu1q8qtTDbswMLvrl0BDcaBwODZ8daDdCdQGzEc8mDdrOhlTrZZG1Mlv3GYNTUdDgPYl6ptn4HDk3lZokQB9HDlE6peHEnsLDlt5XPf8Jv1Dn86WExb433DnmCxtYgXUQDoL6Xc5v4UwDphCLAV9K8yDppVbd8I2oU1O5IvlTrlW9Dt2RNEbLnzCDvtInxEq0kgDx076LkRY6pDxCt2ospaAtDzTmZJ9B1OPE0FIcZ97UfpE0u1sZVxEmME2JYTR8EsYWE3enGFAB9xyE4nP0IxyCeSE5iCOO6LTLYE5wZ3mMUVSZE6Wvu9jU9hlE98wpQhe4KoEBdkNp9FIAHEBr06LLIr0IEBzgtkcLIKKEC01iKncOzi1QCV3B5njrTEEnLmk1aDKkEEocrr2oS7JEFE7NYzeAfaEG5YZ2jTjrOEIAFUIfp91MEJrL75cMZ1EELHWs0xRsb5ELOdDoeilWVELZydJ1OMQXEMQqLWPA9enEOL0RHfMtIEEPmU5GIMU2pEQORwfljkCkEQPcE322pJWEQueBoThJZBET3ijbdr79hEVcfUSACXiBEXXnIOtT7BOEY7JLB5ymeiEaHLEoWLfcuEcDKMVCyL8HEcPXDU6dcmHEcaBh7HwEfMEcrU6wQfDCqEePmwL38nbBEedqTs1zwE9EervRCLTGO4Ef6IMGtHRbuEgiZyRWsJpa1TCZbaHfky3EiLi61kdBAyEk8JHkHq5tNEkgHHmkGaUkEmjUQZNhVT0EnYVph0vYcxEp5jr1kIwJIEt8hjkvM6G6EuJ5daT7P4yEvPZa1qNVVAF0cB5mkAOLRF4VWpTlWyf4F4dQnrlIghGF5Ac3LGwJikF6FirN0Xx1HFBVhjqJgg431WBULePe0Y6FD09iJEtsO1FEYBbsSdGS3FGVgRXebyrOFIQSEZIskuNFIYudKO1hcUFLI5eof1XJEFLTSUKaMNjyFOokGoQ4jya1XekVlEbzzrFQdq1QHh96pFRLmJETkznn1XjqlSFWHIoFTjPvrMzBzmFWJ8mE3BlzNFXpFQjqm0I2FYb5tGXs6ITFZRmL3UXfwvFZUXYvGD3IWFbAY7uDEjrIFbyFQ9ySxiMFcyQCPlHwhCFd3z2aDNlJp1YwattY6HaVFdSYxn41MO9FeKlcfWUYyHFf7OiTI7LeEFf8ONRurOlMFfma5lZfLXuFh4G5zJVwzZFhlgVT3hKX0FmeeITFETVRFpWLTQOFYlBFpssx9GBacXFqn6EfSH9YIFqroScc1rBxFrvZAgqpvqrFs0ShrICX83FsXt6m8M3aEFt5Bjjkanf1FtcI9K5gg33FwCM2wH42lIFx7M4ke09qS09tamZ4MBs8Fydpuc24kPsFzMRiUylGJgG0cy0eWUjCFG0qv7vy0v22G0wFvpCVgTnG2GrByFePPEG2Ovj8YMVMmG2YyAPvG41UG57VMJPaftlG6Xen3JyRJIG6eg1kERrOBG9HwOm6j5JNG9bs6vN1ki2GAUayBVWP3CGB6LayfKjR0GC7PTnNZME3GCGDhWwjnLXGDS95YbUkGMGDoaxEbAMxoGE0oMYYixQxGEkXzmfN2EEGGFtIorTMjtGIhy5oXZEQnGK8mGDzlpUFGKKdcQ2jvNUGKPMGg4WqVAGLbaKHqpRD4GO7cZLi03YpGOW1KJODjuwGQ6hXblrqSrGQzmsuQIGwjGTGeOw1ZjRpGTq9ytPTMu4GVT5rnQ40m2GVqblP8kqsAGVyVi0CGcKWGY3kpKwNCG4GY6yVSL6BhiGY8LW6MMPa9GbZFYk11qRaGbfXv7BptWhGfYjPoZRygJGfhh2dVp7K0GgYP37t7ZNEGgodyKLkXBqGgro4oJoYYzGgxgZ7a5Kw61fYPt3ZMnQUGheSj2cEsgOGhqfgG8y37QGhsK50HMUfgGi7kK3TqSRkGluKd3ii0iBGnGDXzdFgAVGnVKHcqJZ24GoKYx8j8j67GoLqtaITfQtGqxiLVSWerkGrOC0gVqGsrGrPREpORV1RGsgRnhXk5X0GshoUM3AUBYGvsMrPqtBrbGwBfkhzMxA1GyDvVPRH5rj1hEPXZANsvCGzRdHLqLqIrH0BYbQ4k8UPH0RcXzvCQUWH0jvtBR8T7W1hVpoi3uTgiH2SE9lCRRIdH6B0m6Tlm5mH89o46NJHpfH96RWsiyOAtHAVok4lvlXxHBWdluSZ7WDHD9qD8kvwmeHEeN5fqwz71HF5iror2LWDHGEIbKGLfPIHGvy1PtQdjvHIT1tQKhWkbHIW15koATB6HJnR1Krr0UwHKIXPqPHNlFHKyyEJsTDl2HMiOcNlI60SHNGewpxqbLjHO6Kv90MiSBHONWkeqMkvUHPAu4LX5i0jHQaAlljPUaOHQumqLQZ2TRHR3C4o6WfyhHRCAPNwOzB8HRrL9tkVj9MHSj4oy8NDxj0Apq0pS4B4OHVaQLWB5fSmHVwWy5ZcCBdHWl43DbX4NcHYMWYDYFFX01kqE4cXkhXQHZ19uHUjUsGHZyUyfckPB5Hajw1oFnTuUHbXyqmaXrUc1lQVu1J3b1q1lwqFCHzvEvHkoDTMnyi3UHlHltYNa6KuHlSkgT0XoJ7HmwIzB7imF4HnzuxprCIemHpCVu4BPj84HplSUfo8uoN1mkei9mrTYpHuE7lXyNTczHuzXk9Dnc1S1n90bPDHoREHw0Eq103fcG1nJwIMq7nVSHxKucoSCSCIHxaRoyYTukZHy0eZe5j5rPHzcNjxWp1F61nagft81HFkI0ucldL2QTjI24UnO7ohMaI2fl61tq1OtI3OmUSB3limI3Z0PXMtGigI7HhVELQjJYI9ZuQ4EBDqhIBtgwEE6ojLICUzwMfd0C9IE21QnqWIGxIEbESCq6X4WIFkEq9J7hdBIHLDYihgqYTIHS58tWG0A7IJChW26ngG4IJVsfvgylfO1pcjG6guYRGILzNRfOHDJzIM1GSbDqQMyIML1t6wjibWIPCBDTmB6lZIRnFapi048RISYyNmNf9eVITHjViAO8oZIU9yEfNPeafIVz5DlyMSRtIWIAg6nJ2TvIX7QMKGD0HG1qufKMRnMti0BUdFzpLOCE1r0KhO90BI1IZK96fjaruSIbkO4ChheSPIbqTpv5XY2XIhCnkvcQlFfIhLQoyrVql1IjtCWShfqHRIlt4OCsF6Kj1sWgdbDHzkPInpy96c5eULIoAs6xTB4DGIqAwnqLNQ4zIrPO5nR9jDp0BhAuEmHkmkIrpPoCCP1e1ItHm5K31DMNIvAVJ7J56guIvB0TVN23AQIvIqqbAIqnyIxOZQDFc3UyIxxPw7DzKDPIy9feXiEiFn1tj13w436HXIzUC1RJndvTIzyZRqGpdj0J0URYbPdhqpJ1x14V6f64oJ20B0vLlSS4J2lmrbBDLmkJ3oKGwryYw6J4q9o1JY2FhJ5QofZZ3MNWJ5rXzKHZJFbJ63YotzB37LJ7fF4DgjTf5J8CaN43WdIeJAC5NAmBoCCJDCFVTqtt2zJDuVDZsi6KXJDur8safpTd0BwA7qhpQDrJFrVjWJA9Uh1vT0hCY9OnvJHlGsQUnlhKJIuUsKJW0tHJJVi7K2gKrYJJbUllU7Gl0JLRA2O95pWjJLp77XY58eOJM8lvW71sLcJMAEDCgsEk7JMRGa7p7mzT1wDotwL3XXvJSls0TpsZSDJUwzx9muokAJVEtaCacYwHJVT93A3bHWSJVsGkxkYqMm1x83DDnCqFF1xDbJN2uYeoJZJbUrHDBodJZc21PvJ1wzJZzhjA8jJmcJa7K6EkZDHcJbpg6HrrmSgJdNmN06KobHJef6gVCLAPe1y2yd7pVEyPJhAdWcAQn9cJiOa3825ppGJicIvtgO9mLJkEJmyKns6SJlSczh3lM6pJlkyeF2M5SpJo3BojzeCZdJoa3CO8zkTqJpfaWV0hqUaJrWK2boJeYXJroz6rIKFPLJs4ulaDjhpHJuHtWVOhfKXJvHz3pffn2ZJwHjMgY2TxhJwTzHp9evJIJxh4iuOpSRxJzLGxHbkcpfK0FFjQOAf3YK27NgMIMgcyK2wHwziCb2tK3qO4o6y80MK4MNvn214mRK5nbnV46Lj5K7t3vkDv64RK8XkxWReiaOK8w1exVxXbbK8xabwAkrXqKB0rUwSVigl21C276k8voiKCxz5yAPwUKKDolM3SKYV4KEkLOWjJhACKFxQLvJZjqxKGOi1CyP1aVKHXTJAZco3nKJmUQbEaCNNKLhVlTSiZ1eKMFTyMbCNnxKNTzz9RGpL322S2Bqo9WGLKOkMxLug0TjKSYf5kkk5rp22vW67zz4peKTm4Us12b1pKUko4Ooc7kyKXSP6OTRrIoKXstFluHg29KYHOvwSdRMVKZnMq0PaD6oKaj2l2B4XOA23hcQo5mFGyKcMRcIzIkiQ23y94CsVQk4245DKm3Rr2hKfX75GBawDOKkkoaxC4SHiKnSi3N6VIOaKnXVGuY1YNSKpA1y4xisIwKq2cYmM59MMKqhBRHQ0dZOKrv3NlLtgMrKso7ECdxw0K25aHJQsUGD3KvKRUyAJauAKvba9BjdjvRKwQGPD7tLuyKxeHiY0f8CvKz8H9TUoIt2Kzbe17XfaIcL0arMe13sxiL0pMuJMFzTQL17ntSLLSKXL1hhB02pj8dL4XigrwvQXZL62HC2gSv3GL7pyfacfqYsL7vh25YT5eGL9t2kwNbf5NLAOOdEjHUuY27GCM0HOMzwLBFV4k5yyxoLDW3IBceGPuLGhkNnnyZfeLJcOqvIAHLQLM3oi3oYG6ALOqtrcP317ZLOwBEE9SmjyLPEZjBMynx3LQzR0I8228I28zl6SHFudgLS46L5x5YubLSTLEamY6liLTA3girBcDiLVtXQexYVYRLWHmKfm1PYPLWtoY4yOBib29e0T1OXArcLYszyJOK7d0LbgQr8cR6JALcIcdsllXSGLertuXQu9QCLetIStckStELfstDGLduGx2AOMT4JqiQp2AUpPvVBNQrLhLxiYI4Yb8LioA6UIyCc9LjwdeamugYlLkikxoGNKBzLldOkBGSzysLqiWgXfBPuvLqsTbtDWVZiLtIZgizwazqLtk0stqBkgLLu5Von16dzALu5g6irHkEiLvIx4ryqCnVLvUUFvhPuH4LwQkYSTteh32CRS9hjO7N52EOudAEWZn42JMIFZiYZk92Js7mB0XaCk2KeUYe5UUwF2KqbHs0AQZF2M25RKwppZU0EbWEmtgl7O2NX1JqGXENF2QC9KkKCzrL2RV63l6TB4v2UtKdhvJm1s2VQtVgad6Js2Vp7xU4WYbm0FdAbX48lgi2WMn7YXvad22WUFLOxgJ662XJeO3FpBU62ZZ1Z1jf2Jr2ciLavN59Ac2gMDGExygcd2gpB0zx5e6c2gsAB5B2zRf2hX3IdU0ykc2hhvyJtj5iu0Go5H89Bmpr2iLauzwofB92jMIzqDaEQ12oNslrKNbkq2pPnwQWgEdE0HokMfOuEGR2sGi2E5W5a52saX7zdilo42t4HpE0d1VH2yWZWILfSs20IUR5RG9Nbn303lLMPo1Y131d9bp07UDJ31onHobxpK431wnhHbcngy336YC2ytwcA34dkZoOVOgt35B2d9FQB8v35BXQhFOciq35ORrrZtK0v35SBzffNftU377bcuZJzLS3ABgdEnQRjd3BJLAPVjCyX3BOvTf1HR073CSg0RmxvaK0JvHFmNsFK43Dajj4E95db3EGfsamnw2Y3NMybjhwQKq3NTFmkyO2gl3OUfT2SrNiT3Opw4IM2UaQ3PJHnaEjVZo3PmklW6H0883QQw57nigOp3RQUyVJdTc63RSpPMkhU2D3S0FZQuUFDU3TpipBYpXhw3Z7b76Vm4V13bYsNhA677G3dPljln6WUF3ePIb5aG53I0MunUAQ69nN3ilHQBvD1Yt3lzlWeqFAf43mQ835S1NHI3nHPxmVgpMf3okhFlJB1nA3pAozFFa5Ld3puVpzIi0BO3rObcw0eyuT3uCjwCF904E0OOtLp4h06M3wD9HLrVsPO3wtvejp4Eyj3zpTVoeRpPV401LfAPKMTM40weJ51ax0O41VQ3p6cLOM41zEKDqBrOa43xYbTY7ign45Kh4IM8XzR45PoU0IpBmj49gl5mJYy9K0Po8iEOCj6V4BrC541p6Vh4CSnmWKFxLS4CiTpT28tiU4D40DT5KWVO4DWTTKMIUv64DduuzYTAmn4FYTwwloio00QVLTq28Q3X4HGOHwN6OXE4HS2WaSyl5J4Ld9CHtLUsd4Mn9Lit6p3c4N6BiuRECvG4OYbP0hb4NV4OuAKPgH3xL4Q3AaGWLYCB4RXmBevGzuV4RYtFQQSzIi4SuXqA8SeKF4UGxPxx1AqO4WAuXEarC154WFqQjIUDXJ4WjRfe7VGjl4YCZ2bS4fWI4a7cmYf5ZPJ4atFMbC6yxO4dirKQyk50y4gEH5sm2Qmq4gk7R2D1B1I0TBTRMhJy3b4iV4hfD4iMY4it8atRpnHc4nb3tlxus6w4ps33YDSI1l4v6OXZOMtLP4vVFeUC12Ol4vfdV9Sst9c526WjGxltbd52LYNsdgoJb57Bzfp0ECtC59UUlhZjCBZ5A99J3qb2jF0W5l3qh6eG25BU4PKC6EuD5CTjwRzbxpg5DcfOYgZRBM5ETi8tmONxh5F3VrqmfU6M5F4HgDSZN6L5Ftl3zCwrjr5H64YRmQ7xh5HT4LHRiV3S5IiOA44u0sG5JrkROAlY325KTyTNED4in5LmhgDyCsEh0XL5ei3ccnp5OFQEHjjxal5P4P74eJAQd5PGtcCHSpdH5Ppr85rWXcI5QztILksRt75R7ts3RUNdR5RX7X7fjApU5T7g7OK9CSe5Tt9ICvFwSs5UbH7mEXLaU5Xp6dYQvlMx5YNtHcIZ8ed5YPPUtQihfy5YZUY64ubWZ5aeGwUOuZDk5eU9rZBH28t5fPDZ0YLL5G5gQ710E0qae5iZ8uxzPv3e5ikya4Qlij75jBSr1slrUA5oHkLJoAVBg5oY7XZt9qqe0a3jalP3fCu5pMEwVqPo325pTL1xnjMqp5qR4DA423v05r5T4S7LgoA5ralKlanZm55sBYZ83KnWT0aRmOCZw2m75u12sC0cq855w8SgkNiLLY5w93YuiLIC403gPdc6s8wG5zosBXASCmk60TQcYOzhQx62UvxTw4tvB64Mx6ngo12k656qELuzqUY65whiikdA7667nn8Ce0LLr68IRtOgfMX569EZJ11mMfQ69Q1X8pSFRC0cZzGNAZ14f6EAf7Zjzvzo0coF9ORZJFu6GAROsfu3LB6GFF6wfMMrd6GKRwCmhHsm6I8hGDwsUFh6IJ7cI9RoYY6IXUrAh7m3B6IgBwzbmODw0d5LSA68E1s6JnCfAtYEQz6MdrMMxjHBf6MeEJcgqBcV6NUFHa3ihyq6PLsHM4jOo703zygE5WDkZ6S8c3lsrj8N6SA5qDns18p6VxlLYijjos6WQ12PhiRlD6XMUG6qTyqF6XSPhEUW3FB6XgcX8f9SdM6XrSNr680iw6Yqyfq0Z1ZP6YuG6C5Qck16bzDQOBtyHa6dFmlDECAHj6hxkx9imrzR6iDshhgj62a6irhoAUHTcn6jQcdF251YJ6jhtgrHyzHP6k4uDC0dPsp6nIRHaQtEwB6oESh80BPGq6olzLZWV8D56pAP1r6iuxP6qGXBwaCqXF6rXYMPeqOyF6sH8vq0E9kf6v9dM7obkM96xG6DI2YQer70d7tijvD3770p8PxRJXcA71RrPCZdpC172JcLx4Yzsk72yq9I3d4yF768MU604AFb76BwoD632n577aDByfjZ4u79BSOCWKfaQ7ACzNyVrXuR7Bfe6DRLpUr7CN1LdNNql37ChsRmkomdv7DT0oMJmJUa7HTNKhBxzKz7HUBy49HBad0jEnHssYFPq7IsbTUvbsEj7KAfdt259UT7M7vlcGFIlm7MP4QEg3XA67OJBYqD35rG0jr87ZI9V3V7PZpLur7Pr37QscQued8W27VCfI0AIriN7WsYTNXmfQE7XWcmq53k3r0kptDCxkmAG7ZzJM19QhSu04hyvfGinLF7bGrjNR3GaE000I9coHAuh7cyb2XMUj4Z04jpJg6XtWw7fbJlVFeSE37ffmm9kymhq7gMb36UgNAo7gSRJArXD567hbqLxYGq8h7hrhm01zJbK7igDE7Po8vw7jmdppo3k6H7nemCjlVz167nzu4xUhyLK7pV5Znks0B97uKX60wbCdP0n3wU7RoSmE0n50iKXOdpa7wyxlTJ0lVf81QlSXM9U2282Ejy3XWGvF83ibUw1GDer83s7WAK2JLq83twkaVPQy084UNPwwk2Dc85KSDMDubne85Vv3kaWl4H0oElYyPl2ee87XxxBIXIwn88fsSkjp5ip89fi3oazxgJ8A7zg0qr49U8B9hvzslCYD8DU2PZ3jR9H8DpCrl1v5JE8FdfdiRdo8f8HLq1Ip0gVd8Jf774zdcHg8KRQ48Evswn8KnyviaIhl38LZl0OkpOqV8LaRiyUC1XI8NFV0g0nNub8OVBNN3kbVV8PlmZnnXWyS8Qn9Ykfqdd58RR6CljOW9I0qLcRg06slX8VzWXTgC7hz8XVGL1L5gNp8Xuom5moSfV8Z76d8Tk7qf8ZmyKKY89zh8apbYa7PvP18ejctGpWzo60rr9UTIpEkc8hIInVSy2qv8jIqSDDJFIu8nvBZWzGpdL8ny4sNsgHan8prh7Zz4hXq0spmuujeMmb8rJXdiZMWfa8rVfM0SloEr8rf6uQF32bV8s6QBYL4hMM0t3Bq7QgQvk8swBWXvSjWM8tT6RZs3HoN8tmNbofd4YK8xBNxwpsAhz8yBM7SzIGt68z9ipTjHXO08zWsQkkjdtS90FhlDY9IDa0txHOQyjvOu92Ua68j6vpK92VhLGRLzBp93M9odsuyi693tPCiXxOef94Fb8XqBX4A95k3fbiSaJc0uSGeMcdwsI97eeV24u2Sk0ub2f2i79bf98Qt6Uvunn599Fi6prTWFi99faqkZX1im9AVdsES2dBy9BgxWKMXEzK9C0E3sfpQtI0v06TD3vB889CgkMtVov269Cl1WaBxt1S9D6u3eaJPdG9G3oHbFV97y9GJIZt08lmq9GPzWVsqUZt9GUWvRgeIJR9HBi4Q7eR7G0vfstMGk6xh9ImNSePx5sR9LI1REW9SIK9LUxx7h0RrH9M36Hr0wnk89MJpvgwDlB09NdjnbRLjWl9OD9QHA5uuo9ODI1asppnm9OfYSUhFOrs9P9NV2vkfrK9PGbx8CbppX9QyKgLA0Skg9RtDpDXXRSO9SNmujRIp7B9Ut7pjlH0NP9W9VGPB9Hnf9XR2gjg8kCj9Y4GwKm2aJk0xH1GD7sQcJ9Z2jfmVlk859aHdeUFoaDy9cILpKHX3o80y6eTEiLQqf9hErnTRXOG29ih6OOsrLnB9jsuwKB3opR9lQW1fbSwP99lx9yKdJtLP9mrLGnsHGnX9n7WmqtyF8g9nBA7qbNO6E9qtoX5MXkmW9rT796C15lq9tenmZH8F3K9uyZc1nWtIl9v5hyePAuLn9vmDqegXlfk9w1fk4subU29wwMR8u7gwQ0zkJPKDc8fS9xaE4cFbaWx9yVk4yCzoMg9zHDA9lmA8QA1AZpGwEaMqA1xauUDKdUJA2cB0zaTLrtA4hk1ZBVW1IA4j5OKZS6lJA5t0bsEhSowA8gvQDCfNASA9As8Lfy5VZA9IfKOQ4ToiA9MPQPGDxfx10yr29wc5SkABvTBKUh7xlACAw6GnuUHlAF2iA6FY92NAFKtO8P42l7AGNQcTkZ8GpAGxZJBvkJJXAHrnln21bEMAJRSIPp5MrZAJYwEKYxvRgAKviG8lfgccALsLcPhBPgpALyOQy7YvXGAMDJE42dH37AMtv6rlGw08AMyh1JmxnGN12L1PAEiQoVAORK3GnuuFaAREfz569W5wASL8ZN8dAXzASxEa9ZsrrnAUZy8QhVDlIAWgFSluIUMDAZrNkg9v7NbAcSs0LXFrE5AejGHq6e2LPAgx7MzerhIwAhM6WL8aftlAhhX7ioXBviAi0nWeSt8RgAiDk9t5gfALAm30ui1nOUr14rj9184jDuAn4i44U1EFCAnZW0awgswRAp0Yb94BzTPArIKK8WdxB6ArkOCqwBPeIAtbqrTwCz18AuKxTDQ6VRYAuk0l5HnzrbAw0kGrAOqt4AwrsBCE6AqMAy9z57hNt0LAyycIEZB9YHAzpvmdzNokVB1iBjjge5rOB34b2NEFRvEB4VQGYY1e7OB5hvuA2wr2pB6QjU2Pf7n1B6ssvkrbmzkB8mSE21EC8iBBnCHuvTwNEBCBg81GslpMBEDpybUn1YxBFYECrlC5APBHSTy9iX6voBHTRObnokSqBHxfwX7RvH2BIhLaUY38S518WBaBcRzuq073MaOXDbiFBP9po8bcBByBPhmAKbwoQQBPrT4BS1fGSBQuchprLAVcBQz8p4tFz3lBSW5F4VMt0lBTwabZIG2jYBWz13Ra32gwBXC4HI3BhKJBXp8XBUjDeoBZqAV1WxFQ519oiIXQuugtBbQwOCV4lilBd4CjHuC6MfBdaaJ231yCk00inwZCiCQDBffQN2yQ3O11AlMZ4nAXhlBkkdzOIhbW2BlFlsT7WdQbBljnq7RnH6ZBm3WZSj3Gx4BmDSBpRwrWNBmFaD8m0dnbBmIVYRmTNOdBmeHHtYeUUvBnWhef5QYHwBoEi3hijMmrBot3HelRWtCBrKc2u0tuCzBrkUmfUfsn2BrqWxtV22km1BfDTeqiPtLBtDUViTrh10BtH4kgzaLXuBtLOArP9cZIBu9WURtEBFaBuIg2pbBB2C"
end PySem.W.Fast
open Lean in
local macro_rules
 | `($m:declModifiers $d:definition) => do
  unless m.raw[4].isNone do Macro.throwUnsupported
  return mkNode `Lean.Parser.Command.declaration #[m.raw.setArg 4 (mkNullNode #[mkNode `Lean.Parser.Command.noncomputable #[mkAtom "noncomputable"]]), d]
noncomputable section
section
namespace Hk
open PySem PySem.W
theorem chs {α β:Type}{f:β→α}{l:List β}{γ:Type}{g:γ→α}{l2:List γ}{n m k:Nat} (h1:((l.drop n).take m).map f=((l2.drop n).take m).map g) (hk:n+m=k) (h2:(l.drop k).map f=(l2.drop k).map g):(l.drop n).map f=(l2.drop n).map g:=by
  subst hk
  rw [← List.take_append_drop m (l.drop n),← List.take_append_drop m (l2.drop n),List.map_append,List.map_append,h1,List.drop_drop,List.drop_drop,h2]
theorem ch {K:Params→Frag}{as:List Addr} (e:∀ P,as=(K P).map (·.1)) (w:World) (s:Shared) (x:((((((as.drop 0).take 64).map s.heap.get?,((as.drop 64).take 64).map s.heap.get?),(((as.drop 128).take 64).map s.heap.get?,((as.drop 192).take 64).map s.heap.get?)),((((as.drop 256).take 64).map s.heap.get?,((as.drop 320).take 64).map s.heap.get?),(((as.drop 384).take 64).map s.heap.get?,((as.drop 448).take 64).map s.heap.get?))),(((((as.drop 512).take 64).map s.heap.get?,((as.drop 576).take 64).map s.heap.get?),(((as.drop 640).take 64).map s.heap.get?,((as.drop 704).take 64).map s.heap.get?)),((((as.drop 768).take 64).map s.heap.get?,((as.drop 832).take 64).map s.heap.get?),(((as.drop 896).take 64).map s.heap.get?,(as.drop 960).map s.heap.get?))))=(((((((K w.params).drop 0).take 64).map (fun p=>some p.2),(((K w.params).drop 64).take 64).map (fun p=>some p.2)),((((K w.params).drop 128).take 64).map (fun p=>some p.2),(((K w.params).drop 192).take 64).map (fun p=>some p.2))),(((((K w.params).drop 256).take 64).map (fun p=>some p.2),(((K w.params).drop 320).take 64).map (fun p=>some p.2)),((((K w.params).drop 384).take 64).map (fun p=>some p.2),(((K w.params).drop 448).take 64).map (fun p=>some p.2)))),((((((K w.params).drop 512).take 64).map (fun p=>some p.2),(((K w.params).drop 576).take 64).map (fun p=>some p.2)),((((K w.params).drop 640).take 64).map (fun p=>some p.2),(((K w.params).drop 704).take 64).map (fun p=>some p.2))),(((((K w.params).drop 768).take 64).map (fun p=>some p.2),(((K w.params).drop 832).take 64).map (fun p=>some p.2)),((((K w.params).drop 896).take 64).map (fun p=>some p.2),((K w.params).drop 960).map (fun p=>some p.2)))))):InK K w s.heap:=by
  simp only [Prod.mk.injEq] at x
  obtain⟨⟨⟨⟨x0,x1⟩,⟨x2,x3⟩⟩,⟨⟨x4,x5⟩,⟨x6,x7⟩⟩⟩,⟨⟨⟨x8,x9⟩,⟨x10,x11⟩⟩,⟨⟨x12,x13⟩,⟨x14,x15⟩⟩⟩⟩:=x
  have y15:=x15
  have y14:=chs x14 (by decide) y15
  have y13:=chs x13 (by decide) y14
  have y12:=chs x12 (by decide) y13
  have y11:=chs x11 (by decide) y12
  have y10:=chs x10 (by decide) y11
  have y9:=chs x9 (by decide) y10
  have y8:=chs x8 (by decide) y9
  have y7:=chs x7 (by decide) y8
  have y6:=chs x6 (by decide) y7
  have y5:=chs x5 (by decide) y6
  have y4:=chs x4 (by decide) y5
  have y3:=chs x3 (by decide) y4
  have y2:=chs x2 (by decide) y3
  have y1:=chs x1 (by decide) y2
  have y0:=chs x0 (by decide) y1
  exact InK.of e w s y0
end Hk
open Lean in
local macro_rules
  | `($f:ident $h:term)=>do
    let n:=f.getId.eraseMacroScopes
    unless n == `Hook.obs || n == `Hook.val || n == `Hook.of do Macro.throwUnsupported
    match h with
    | `(($g:ident $k $a $e)) =>
      unless g.getId.eraseMacroScopes == `kHook do Macro.throwUnsupported
      if n == `Hook.obs then `(fun (s:PySem.Shared)=>((((((($a).drop 0).take 64).map s.heap.get?,((($a).drop 64).take 64).map s.heap.get?),(((($a).drop 128).take 64).map s.heap.get?,((($a).drop 192).take 64).map s.heap.get?)),((((($a).drop 256).take 64).map s.heap.get?,((($a).drop 320).take 64).map s.heap.get?),(((($a).drop 384).take 64).map s.heap.get?,((($a).drop 448).take 64).map s.heap.get?))),(((((($a).drop 512).take 64).map s.heap.get?,((($a).drop 576).take 64).map s.heap.get?),(((($a).drop 640).take 64).map s.heap.get?,((($a).drop 704).take 64).map s.heap.get?)),((((($a).drop 768).take 64).map s.heap.get?,((($a).drop 832).take 64).map s.heap.get?),(((($a).drop 896).take 64).map s.heap.get?,(($a).drop 960).map s.heap.get?)))))
      else if n == `Hook.val then `(fun (w:PySem.World)=>(((((((($k) w.params).drop 0).take 64).map (fun p=>some p.2),(((($k) w.params).drop 64).take 64).map (fun p=>some p.2)),((((($k) w.params).drop 128).take 64).map (fun p=>some p.2),(((($k) w.params).drop 192).take 64).map (fun p=>some p.2))),(((((($k) w.params).drop 256).take 64).map (fun p=>some p.2),(((($k) w.params).drop 320).take 64).map (fun p=>some p.2)),((((($k) w.params).drop 384).take 64).map (fun p=>some p.2),(((($k) w.params).drop 448).take 64).map (fun p=>some p.2)))),((((((($k) w.params).drop 512).take 64).map (fun p=>some p.2),(((($k) w.params).drop 576).take 64).map (fun p=>some p.2)),((((($k) w.params).drop 640).take 64).map (fun p=>some p.2),(((($k) w.params).drop 704).take 64).map (fun p=>some p.2))),(((((($k) w.params).drop 768).take 64).map (fun p=>some p.2),(((($k) w.params).drop 832).take 64).map (fun p=>some p.2)),((((($k) w.params).drop 896).take 64).map (fun p=>some p.2),((($k) w.params).drop 960).map (fun p=>some p.2))))))
      else `(Hk.ch (K:=$k) (as:=$a) $e)
    | _=>Macro.throwUnsupported
open PySem PySem.W PyProof.Rows
set_option maxHeartbeats 0 in
open_top PySem.Challenge.hd54 for PySem.Challenge.rw_askpaper_k54_ways_by_ranges
end
namespace L2
open PySem PySem.Spec PyProof.Rows
abbrev Key:=Sum Int Str
def By:Key→Value→Bool
 | .inl k,v=>Value.isInt k v
 | .inr x,v=>Value.isStrOf x v
def ajy (w:World):Key→Int
 | .inl k=>hashInt k
 | .inr x=>hashStr w x
theorem yV:∀ {k:Key}{v:Value},By k v=true→(∃ i t,k=Sum.inl i∧v=Value.int i t)∨(∃ x t,k=Sum.inr x∧v=Value.str x t)
 | .inl i,v,h=>by
   obtain⟨t,e⟩:=Value.isInt_shape (k:=i) (v:=v) h
   exact .inl ⟨i,t,rfl,e⟩
 | .inr x,v,h=>by
   obtain⟨t,e⟩:=Value.isStrOf_shape (x:=x) (v:=v) h
   exact .inr ⟨x,t,rfl,e⟩
theorem Lh (i:Int) (t:Tok):By (.inl i) (.int i t)=true:=by simp [By,Value.isInt]
theorem Li (x:Str) (t:Tok):By (.inr x) (.str x t)=true:=by simp [By,Value.isStrOf]
theorem U0 (a b:Int):decide ((Sum.inl a:Key)=Sum.inl b)=(a == b):=by
 by_cases e:a=b
 · subst e;simp
 · have h:¬ (Sum.inl a:Key)=Sum.inl b:=fun q=>e (Sum.inl.inj q)
   rw [decide_eq_false h]
   exact (beq_eq_false_iff_ne.mpr e).symm
theorem U3 (a b:Str):decide ((Sum.inr a:Key)=Sum.inr b)=decide (a=b):=by
 by_cases e:a=b
 · subst e;simp
 · have h:¬ (Sum.inr a:Key)=Sum.inr b:=fun q=>e (Sum.inr.inj q)
   rw [decide_eq_false h,decide_eq_false e]
theorem U4 (a:Int) (b:Str):decide ((Sum.inl a:Key)=Sum.inr b)=false:=decide_eq_false (fun q=>nomatch q)
theorem U5 (a:Str) (b:Int):decide ((Sum.inr a:Key)=Sum.inl b)=false:=decide_eq_false (fun q=>nomatch q)
def cO (prog:Program) (w:World):PySem.KeyKind prog w Key where
 is:=By
 hash:=ajy w
 inj:=fun v a b ha hb=>by
   rcases yV ha with ⟨i,t,rfl,rfl⟩ | ⟨x,t,rfl,rfl⟩
   · rcases yV hb with ⟨j,u,rfl,e⟩ | ⟨y,u,rfl,e⟩
     · injection e with e1 _;rw [e1]
     · exact nomatch e
   · rcases yV hb with ⟨j,u,rfl,e⟩ | ⟨y,u,rfl,e⟩
     · exact nomatch e
     · injection e with e1 _;rw [e1]
 byValue:=fun k v h=>by
   rcases yV h with ⟨i,t,rfl,rfl⟩ | ⟨x,t,rfl,rfl⟩ <;> rfl
 pyHash:=fun hv h=>by
   rcases yV hv with ⟨i,t,rfl,rfl⟩ | ⟨x,t,rfl,rfl⟩
   · exact wpAny_pyHash_int h
   · exact wpAny_pyHash_str h
 eqBool:=fun hu hv h=>by
   rcases yV hu with ⟨i,t,rfl,rfl⟩ | ⟨x,t,rfl,rfl⟩
   · rcases yV hv with ⟨j,u,rfl,rfl⟩ | ⟨y,u,rfl,rfl⟩
     · rw [U0] at h;exact wpAny_eqBool_int h
     · rw [U4] at h;exact SeqAt.EqAt.int_str i t y u _ _ _ _ h
   · rcases yV hv with ⟨j,u,rfl,rfl⟩ | ⟨y,u,rfl,rfl⟩
     · rw [U5] at h;exact SeqAt.EqAt.str_int x t j u _ _ _ _ h
     · rw [U3] at h;exact wpAny_eqBool_str h
 «strs»:=fun k x t v h=>by
   rcases yV h with ⟨i,u,rfl,e⟩ | ⟨y,u,rfl,e⟩
   · exact nomatch e
   · injection e with e1 _
     subst e1
     cases v <;> rfl
theorem Ew (prog:Program) (w:World) (i:Int) (t:Tok):(cO prog w).is (.inl i) (.int i t)=true:=Lh i t
theorem Ex (prog:Program) (w:World) (x:Str) (t:Tok):(cO prog w).is (.inr x) (.str x t)=true:=Li x t
end L2
namespace L2
open PySem PySem.Spec PyProof.Rows
inductive V where
 | non | bl (b:Bool) | int (i:Int) | str (x:Str) | HX (b:Array UInt8) | flt (b:UInt64) | ref (a:Addr) | ty (n:String)
 deriving DecidableEq
def RelV:V→Value→Prop
 | .non,u=>u=Value.none
 | .bl b,u=>u=Value.bool b
 | .int i,u=>∃ t,u=Value.int i t
 | .str x,u=>∃ t,u=Value.str x t
 | .HX b,u=>∃ t,u=Value.bytes b t
 | .flt b,u=>∃ t,u=Value.float b t
 | .ref a,u=>u=Value.ref a
 | .ty n,u=>u=Value.type n
abbrev Vals:List V→List Value→Prop:=Paired RelV
theorem Vals.length {xs:List V}{us:List Value} (r:Vals xs us):xs.length=us.length:=Paired.length r
theorem Vals.get:∀ {xs:List V}{us:List Value}{i:Nat}{x:V},Vals xs us→xs[i]? = some x→∃ u,us[i]? = some u∧RelV x u
 | _,_,_,_,.nil,e=>by simp at e
 | _,_,0,_,.cons r _,e=>by simp at e;subst e;exact⟨_,rfl,r⟩
 | _,_,i+1,x,.cons _ t,e=>by
   obtain⟨u,h1,h2⟩:=Vals.get (i:=i) (x:=x) t (by simpa using e)
   exact⟨u,by simpa using h1,h2⟩
theorem Vals.set {x:V}{u:Value} (r:RelV x u):∀ {xs:List V}{us:List Value} (i:Nat),Vals xs us→Vals (xs.set i x) (us.set i u)
 | _,_,_,.nil=>.nil
 | _,_,0,.cons _ t=>.cons r t
 | _,_,i+1,.cons q t=>.cons q (Vals.set r i t)
theorem Vals.append:∀ {xs ys:List V}{us ws:List Value},Vals xs us→Vals ys ws→Vals (xs++ys) (us++ws)
 | _,_,_,_,.nil,s=>s
 | _,_,_,_,.cons r t,s=>.cons r (Vals.append t s)
theorem Vals.take:∀ {xs:List V}{us:List Value} (n:Nat),Vals xs us→Vals (xs.take n) (us.take n)
 | _,_,0,_=>.nil
 | _,_,_+1,.nil=>.nil
 | _,_,n+1,.cons r t=>.cons r (Vals.take n t)
theorem Vals.drop:∀ {xs:List V}{us:List Value} (n:Nat),Vals xs us→Vals (xs.drop n) (us.drop n)
 | _,_,0,r=>r
 | _,_,_+1,.nil=>.nil
 | _,_,n+1,.cons _ t=>Vals.drop n t
theorem Vals.none_of:∀ {xs:List V}{us:List Value}{i:Nat},Vals xs us→xs[i]? = none→us[i]? = none:=fun {xs us i} r e=>by
 have h1:=r.length
 have h2:xs.length≤i:=List.getElem?_eq_none_iff.mp e
 exact List.getElem?_eq_none_iff.mpr (by omega)
def oF:Option V→Option Value→Prop
 | some v,some u=>RelV v u
 | none,none=>True
 | _,_=>False
def KV {κ:Type}:List (κ × V)→List (κ × Value)→Prop:=Paired fun (p:κ × V) (q:κ × Value)=>p.1=q.1∧RelV p.2 q.2
def kV:Key→V
 | .inl i=>.int i
 | .inr x=>.str x
inductive HO where
 | lst (xs:List V)
 | tup (xs:List V)
 | dK (kvs:List (Key × V)) | dT (kvs:List (List Key × V))
 | set (S:Int→Bool) (n:Nat)
 | ins (C dx:Addr) (fs:List (Str × V))
 | own (x:Addr)
 | xd (fs:List (Str × V))
 | met (f x:Addr)
 | rng (lo hi:Int)
 | qp (o:Obj) (u:HO)
 | lD (ps:Array Value)
 | ext (φ:Heap→Prop)
abbrev Hp:=Addr→Option HO
def upd (H:Hp) (a:Addr) (o:HO):Hp:=fun b=>if b=a then some o else H b
theorem zB {H:Hp}{a:Addr}{o:HO}:upd H a o a=some o:=by unfold upd;rw [if_pos rfl]
theorem zI {H:Hp}{a b:Addr}{o:HO} (h:b≠a):upd H a o b=H b:=by unfold upd;rw [if_neg h]
theorem yH {H:Hp}{a:Addr}{o u:HO}:upd (upd H a o) a u=upd H a u:=by
 funext b;unfold upd;split <;> rfl
theorem yP {H:Hp}{a b:Addr}{o u:HO} (h:H a=some o) (h':H b=some u) (d:o≠u):a≠b:=by
 intro e;subst e;rw [h] at h';exact d (Option.some.inj h')
theorem zH {H:Hp}{a b:Addr}{o:HO} (h:H a=some o) (h':H b=none):a≠b:=by
 intro e;subst e;rw [h] at h';cases h'
section
variable (P:Program) (w:World)
def cu (H:Hp) (h:Heap) (a:Addr):HO→Prop
 | .lst xs=>xs.length≤sizeLine∧∃ (its:List Value) (n:Nat),Vals xs its∧h.get? a=some { cls:=.type "list",data:=.seq its.toArray n }
 | .tup xs=>xs.length≤sizeLine∧∃ its:List Value,Vals xs its∧IsTup h a its.toArray
 | .dK kvs=>kvs.length≤sizeLine∧(a == sysModules)=false∧∃ vs,KV kvs vs∧h.DictOf (cO P w) a vs
 | .dT kvs=>kvs.length≤sizeLine∧(a == sysModules)=false∧∃ xs:List (List Key × Addr × Value),
     Paired (fun (p:List Key × V) (q:List Key × Addr × Value)=>p.1=q.1∧H q.2.1=some (.tup (p.1.map kV))∧RelV p.2 q.2.2) kvs xs ∧
     ∃ o es ep,h.get? a=some o∧o.ExactDict∧o.data=.dict es ep∧es.toList=xs.map (entryOfKey (tupleKind (cO P w)))∧(xs.map (·.1)).Nodup
 | .set S n=>h.SetOf (intKind P w) a S n
 | .ins C dx fs=>H dx=some (.own a)∧fs.length≤1000∧dx≠a∧h.get? a=some (PySem.W.instObj C dx) ∧
     ∃ mA,h.Ns1 dx mA∧(∀ f,oF (fs.lookup f) (mA f))∧PySem.Within mA (fs.map (·.1))
 | .own _=>∃ o,h.get? a=some o
 | .xd fs=>∃ mA,h.Ns1 a mA∧∀ f,oF (fs.lookup f) (mA f)
 | .rng lo hi=>∃ t u v,h.get? a=some { cls:=.type "range",data:=.fields #[.int lo t,.int hi u,.int 1 v] }
 | .qp o u=>h.get? a=some o∧cu H h a u
 | .lD ps=>∃ ts:Array Value,h.get? a=some { cls:=.none,data:=.fields ts }∧((ts=#[]∧∃ q ln cl,ps=#[.str q 0,ln,cl]) ∨
     ∃ q ln cl c',ts=#[ln,cl,.ref c']∧(ps=#[.str q 0,ln,cl]∨ps=#[.str q 0,ln,cl,.ref c'])∧H c'=some (.own a)∧h.CodeRec (.ref c') q)
 | .met f x=>h.get? a=some (PySem.W.methodObj (.ref f) (.ref x))
 | .ext φ=>φ h∧(∃ o,h.get? a=some o)∧∀ h1 h2:Heap,φ h1→(∀ o,h1.get? a=some o→h2.get? a=some o)→φ h2
def pZ (H:Hp) (h:Heap):Prop:=∀ a o,H a=some o→cu P w H h a o
end
section
variable {P:Program}{w:World}{H H':Hp}{h h':Heap}{a:Addr}{o:HO}
theorem cu.lt (x:cu P w H h a o):a<h.objs.size:=by
 cases o with
 | lst xs=>obtain⟨_,_,_,_,e⟩:=x;exact Heap.lt_size e
 | tup xs=>obtain⟨_,_,_,p⟩:=x;exact p.lt
 | dK kvs=>obtain⟨_,_,_,_,o,_,_,e,_⟩:=x;exact Heap.lt_size e
 | dT kvs=>obtain⟨_,_,_,_,o,_,_,e,_⟩:=x;exact Heap.lt_size e
 | set S n=>obtain⟨o,_,_,_,e,_⟩:=x;exact Heap.lt_size e
 | ins C dx fs=>obtain⟨_,_,_,e,_⟩:=x;exact Heap.lt_size e
 | own y=>obtain⟨_,e⟩:=x;exact Heap.lt_size e
 | xd fs=>obtain⟨_,⟨_,_,_,e,_⟩,_⟩:=x;exact Heap.lt_size e
 | rng lo hi=>obtain⟨_,_,_,e⟩:=x;exact Heap.lt_size e
 | qp ob u=>obtain⟨e,_⟩:=x;exact Heap.lt_size e
 | lD ps=>obtain⟨_,e,_⟩:=x;exact Heap.lt_size e
 | met f y=>exact Heap.lt_size (show h.get? a=some _ from x)
 | ext φ=>obtain⟨_,⟨_,e⟩,_⟩:=x;exact Heap.lt_size e
theorem Paired.Q9 {α β:Type}{F G:α→β→Prop}:∀ {l₁:List α}{l₂:List β},Paired F l₁ l₂→(∀ a b,F a b→G a b)→Paired G l₁ l₂
 | _,_,.nil,_=>.nil
 | _,_,.cons r t,f=>.cons (f _ _ r) (Paired.Q9 t f)
theorem cu.stay (x:cu P w H h a o) (k:∀ b u,(b=a∨H b=some (.own a))→h.get? b=some u→h'.get? b=some u)
   (ho:∀ b,H b=some (.own a)→H' b=some (.own a)) (ht:∀ b xs,H b=some (.tup xs)→H' b=some (.tup xs)):cu P w H' h' a o:=by
 induction o with
 | lst xs=>obtain⟨z,its,n,r,e⟩:=x;exact⟨z,its,n,r,k _ _ (.inl rfl) e⟩
 | tup xs=>obtain⟨z,its,r,ob,e,c⟩:=x;exact⟨z,its,r,ob,k _ _ (.inl rfl) e,c⟩
 | dK kvs=>obtain⟨z,y,vs,r,ob,es,ep,e,c⟩:=x;exact⟨z,y,vs,r,ob,es,ep,k _ _ (.inl rfl) e,c⟩
 | dT kvs =>
   obtain⟨z,y,xs,r,ob,es,ep,e,c⟩:=x
   exact⟨z,y,xs,Paired.Q9 r fun p q z=>⟨z.1,ht _ _ z.2.1,z.2.2⟩,ob,es,ep,k _ _ (.inl rfl) e,c⟩
 | set S n=>obtain⟨ob,es,ep,t,e,c⟩:=x;exact⟨ob,es,ep,t,k _ _ (.inl rfl) e,c⟩
 | ins C dx fs =>
   obtain⟨d,z,ne,e,mA,⟨od,es,ep,e2,c⟩,r⟩:=x
   exact⟨ho _ d,z,ne,k _ _ (.inl rfl) e,mA,⟨od,es,ep,k _ _ (.inr d) e2,c⟩,r⟩
 | own y=>obtain⟨ob,e⟩:=x;exact⟨ob,k _ _ (.inl rfl) e⟩
 | xd fs=>obtain⟨mA,⟨od,es,ep,e,c⟩,r⟩:=x;exact⟨mA,⟨od,es,ep,k _ _ (.inl rfl) e,c⟩,r⟩
 | rng lo hi=>obtain⟨t,u,v,e⟩:=x;exact⟨t,u,v,k _ _ (.inl rfl) e⟩
 | qp ob u ih=>obtain⟨e,q⟩:=x;exact⟨k _ _ (.inl rfl) e,ih q⟩
 | lD ps =>
   obtain⟨ts,e,d⟩:=x
   refine⟨ts,k a _ (.inl rfl) e,?_⟩
   rcases d with d | ⟨q,ln,cl,c',e1,e2,e3,c2,o,vs,t,e4,e5,e6⟩
   · exact .inl d
   · cases e4
     exact .inr ⟨q,ln,cl,c',e1,e2,ho _ e3,c',o,vs,t,rfl,k _ _ (.inr e3) e5,e6⟩
 | met f y =>
   have e:h.get? a=some (PySem.W.methodObj (.ref f) (.ref y)):=x
   show h'.get? a=some (PySem.W.methodObj (.ref f) (.ref y))
   exact k a _ (.inl rfl) e
 | ext φ=>obtain⟨p,⟨o,e⟩,st⟩:=x;exact⟨st _ _ p fun o q=>k _ _ (.inl rfl) q,⟨o,k _ _ (.inl rfl) e⟩,st⟩
theorem pZ.lt (x:pZ P w H h) (e:H a=some o):a<h.objs.size:=(x a o e).lt
theorem pZ.fresh (x:pZ P w H h) (e:h.objs.size≤a):H a=none:=by
 cases q:H a with
 | none=>rfl
 | some u=>exact absurd (Nat.lt_of_lt_of_le (x.lt q) e) (Nat.lt_irrefl _)
theorem pZ.kept (x:pZ P w H h) (k:∀ b u,h.get? b=some u→h'.get? b=some u):pZ P w H h':=fun a o e =>
 (x a o e).stay (fun b u _ q=>k b u q) (fun _ q=>q) fun _ _ q=>q
theorem pZ.laid (x:pZ P w H h) (k:∀ b u,h.get? b=some u→h'.get? b=some u) (hp:h.objs.size≤a) (new:cu P w (upd H a o) h' a o):pZ P w (upd H a o) h':=fun b u e=>by
 have hn:=x.fresh hp
 by_cases hb:b=a
 · subst hb;rw [zB] at e;cases e;exact new
 · rw [zI hb] at e
   exact (x b u e).stay (fun c v _ q=>k c v q) (fun c q=>by rw [zI (zH q hn)];exact q) fun c xs q=>by rw [zI (zH q hn)];exact q
end
def Rd (H:Hp) (a:Addr) (u:HO):Prop:=H a=some u∨∃ o,H a=some (.qp o u)
theorem Rd.of {H:Hp}{a:Addr}{u:HO} (h:H a=some u):Rd H a u:=.inl h
theorem Rd.ok {P:Program}{w:World}{H:Hp}{h:Heap}{a:Addr}{u:HO} (r:Rd H a u) (x:pZ P w H h):cu P w H h a u:=by
 rcases r with r | ⟨o,r⟩
 · exact x a u r
 · obtain⟨_,q⟩:=x a _ r
   exact q
def Zi:Option HO→Prop
 | some (.lst _)=>True
 | some (.dK _)=>True
 | some (.dT _)=>True
 | some (.set _ _)=>True
 | some (.ins _ _ _)=>True
 | some (.ext _)=>True
 | _=>False
section
variable {P:Program}{w:World}{H:Hp}{h h':Heap}{x e:Addr}{o':HO}
theorem pZ.write (ok:pZ P w H h) (mu:Zi (H x)) (he:e=x∨H e=some (.own x)) (k:∀ b u,b≠e→h.get? b=some u→h'.get? b=some u) (heo:∃ u,h'.get? e=some u)
   (new:cu P w (upd H x o') h' x o'):pZ P w (upd H x o') h':=fun b u q=>by
 have Zj:∀ c y,H c=some (.own y)→c≠x:=fun c y r z=>by subst z;rw [r] at mu;exact mu
 have ajA:∀ c xs,H c=some (.tup xs)→c≠x:=fun c xs r z=>by subst z;rw [r] at mu;exact mu
 by_cases hb:b=x
 · subst hb;rw [zB] at q;cases q;exact new
 · rw [zI hb] at q
   by_cases hbe:b=e
   · have q':H b=some (.own x):=by
       rcases he with z | z
       · exact absurd (hbe.trans z) hb
       · rw [hbe];exact z
     rw [q] at q';cases q'
     obtain⟨v,hv⟩:=heo
     exact⟨v,by rw [hbe];exact hv⟩
   · refine (ok b u q).stay (fun c v hc r=>k c v ?_ r) (fun c r=>by rw [zI (Zj c b r)];exact r) fun c xs r=>by rw [zI (ajA c xs r)];exact r
     rcases hc with rfl | hc
     · exact hbe
     · rintro rfl
       rcases he with z | z
       · exact Zj c b hc z
       · rw [hc] at z;cases z;exact hb rfl
end
structure Un (fs ex:List Addr) (H H':Hp) (h h':Heap):Prop where
 keep:∀ b o,h.get? b=some o→H b=none→b∉fs→b∉ex→h'.get? b=some o
 slot:∀ b o,h.get? b=some o→H b=none→b∈fs→b∉ex→∃ sl,h'.get? b=some { o with slots:=sl }
 free:∀ b o,h.get? b=some o→H b=none→b∉ex→H' b=none
 there:∀ b o,h.get? b=some o→b∉ex→∃ o',h'.get? b=some o'
 tups:∀ b xs,H b=some (.tup xs)→H' b=some (.tup xs)
 lZ:∀ b o u,H b=some (.qp o u)→H' b=some (.qp o u)
 mU:∀ b ps,H b=some (.lD ps)→∃ more,H' b=some (.lD (ps++more))
section
variable {fs fs' ex ex':List Addr}{H H1 H2:Hp}{h h1 h2 h':Heap}{a x e:Addr}{o:HO}
theorem Un.any (u:Un fs ex H H1 h h1) {b:Addr}{ob:Obj} (q:h.get? b=some ob) (n:H b=none) (hx:b∉ex):∃ sl,h1.get? b=some { ob with slots:=sl }:=by
 by_cases hb:b∈fs
 · exact u.slot b ob q n hb hx
 · exact⟨ob.slots,u.keep b ob q n hb hx⟩
theorem Un.trans (a:Un fs ex H H1 h h1) (b:Un fs ex H1 H2 h1 h2):Un fs ex H H2 h h2 where
 keep:=fun c ob q n hc hx=>b.keep c ob (a.keep c ob q n hc hx) (a.free c ob q n hx) hc hx
 slot:=fun c ob q n hc hx=>by
   obtain⟨sl,e1⟩:=a.slot c ob q n hc hx
   obtain⟨sl',e2⟩:=b.slot c _ e1 (a.free c ob q n hx) hc hx
   exact⟨sl',e2⟩
 free:=fun c ob q n hx=>by
   obtain⟨o',e1⟩:=a.there c ob q hx
   exact b.free c o' e1 (a.free c ob q n hx) hx
 there:=fun c ob q hx=>by
   obtain⟨o',e1⟩:=a.there c ob q hx
   exact b.there c o' e1 hx
 tups:=fun c xs q=>b.tups c xs (a.tups c xs q)
 lZ:=fun c ob xs q=>b.lZ c ob xs (a.lZ c ob xs q)
 mU:=fun c ps q=>by
   obtain⟨m1,e1⟩:=a.mU c ps q
   obtain⟨m2,e2⟩:=b.mU c _ e1
   exact⟨m1++m2,by rw [e2,Array.append_assoc]⟩
theorem Un.kept (k:∀ b u,h.get? b=some u→h'.get? b=some u):Un fs ex H H h h' :=
 ⟨fun b ob q _ _ _=>k b ob q,fun b ob q _ _ _=>⟨ob.slots,k b ob q⟩,fun _ _ _ n _=>n,fun b ob q _=>⟨ob,k b ob q⟩,fun _ _ q=>q,fun _ _ _ q=>q,fun _ ps q=>⟨#[],by rw [q];simp⟩⟩
theorem Un.refl:Un fs ex H H h h:=Un.kept fun _ _ q=>q
theorem Un.laid (k:∀ b u,h.get? b=some u→h'.get? b=some u) (hp:h.objs.size≤a) (hn:H a=none):Un fs ex H (upd H a o) h h' where
 keep:=fun b u q _ _ _=>k b u q
 slot:=fun b u q _ _ _=>⟨u.slots,k b u q⟩
 free:=fun b u q n _=>by rw [zI (Nat.ne_of_lt (Nat.lt_of_lt_of_le (Heap.lt_size q) hp))];exact n
 there:=fun b u q _=>⟨u,k b u q⟩
 tups:=fun b xs q=>by rw [zI (zH q hn)];exact q
 lZ:=fun b u xs q=>by rw [zI (zH q hn)];exact q
 mU:=fun b ps q=>⟨#[],by rw [zI (zH q hn),q];simp⟩
theorem Un.write (mu:Zi (H x)) (he:e=x∨H e=some (.own x)) (k:∀ b u,b≠e→h.get? b=some u→h'.get? b=some u) (heo:∃ u,h'.get? e=some u):Un fs ex H (upd H x o) h h':=by
 have hx:∀ b,H b=none→b≠x:=fun b n z=>by subst z;rw [n] at mu;exact mu
 have hb:∀ b,H b=none→b≠e:=fun b n z=>by
   subst z
   rcases he with r | r
   · exact hx b n r
   · rw [n] at r;cases r
 have hm:∀ b u,H b=some u→¬ Zi (some u)→b≠x:=fun b u q nm z=>by subst z;rw [q] at mu;exact nm mu
 refine⟨fun b u q n _ _=>k b u (hb b n) q,fun b u q n _ _=>⟨u.slots,k b u (hb b n) q⟩,fun b u q n _=>by rw [zI (hx b n)];exact n,fun b u q _=>?_,
   fun b xs q=>by rw [zI (hm b _ q fun z=>z)];exact q,fun b u xs q=>by rw [zI (hm b _ q fun z=>z)];exact q,fun b ps q=>⟨#[],by rw [zI (hm b _ q fun z=>z),q];simp⟩⟩
 by_cases hbe:b=e
 · subst hbe;exact heo
 · exact⟨u,k b u hbe q⟩
theorem Un.mono (u:Un fs ex H H1 h h1) (hs:∀ b∈fs,b∈fs') (hx:∀ b∈ex,b∈ex'):Un fs' ex' H H1 h h1 :=
 ⟨fun b ob q n hb he=>u.keep b ob q n (fun z=>hb (hs b z)) fun z=>he (hx b z),fun _ _ q n _ he=>u.any q n fun z=>he (hx _ z),fun b ob q n he=>u.free b ob q n fun z=>he (hx b z),fun b ob q he=>u.there b ob q fun z=>he (hx b z),u.tups,u.lZ,u.mU⟩
end
def trk (h:Heap) (H:Hp):List Addr:=(List.range h.objs.size).filter fun a=>(H a).isSome
def Am (h:Heap) (H:Hp):Heap:=PySem.W.hideAll h (trk h H)
theorem Lj (h:Heap) (H:Hp):(Am h H).objs.size=h.objs.size:=PySem.W.hideAll_size _ _
theorem Ni {h:Heap}{H:Hp}{b:Addr}{o:Obj} (e:h.get? b=some o) (n:H b=none):(Am h H).get? b=some o :=
 PySem.W.hideAll_get _ e fun hm=>by
   have q:(H b).isSome=true:=(List.mem_filter.mp hm).2
   rw [n] at q;simp at q
theorem Ra {h:Heap}{H:Hp}{b:Addr}{o:Obj} (e:(Am h H).get? b=some o):h.get? b=some o∧H b=none:=by
 have e':h.get? b=some o:=PySem.W.of_hideAll (trk h H) e
 refine⟨e',?_⟩
 cases q:H b with
 | none=>rfl
 | some x =>
   have hm:b∈trk h H:=List.mem_filter.mpr ⟨List.mem_range.mpr (Heap.lt_size e'),by simp [q]⟩
   have z:(Am h H).get? b=none:=PySem.W.hideAll_none (trk h H) hm
   rw [z] at e;cases e
def Rb (g h:Heap) (L:Addr):List (Addr × Obj):=(List.range h.objs.size).filterMap fun a=>if a=L∨(g.get? a).isSome=true then none else (h.get? a).map fun o=>(a,o)
def rest (g h:Heap) (L d:Addr):List (Addr × Obj):=(Rb g h L).filter fun p=>decide (p.1≠d)
end L2
namespace L2
open PySem PySem.Spec PyProof.Rows
structure Mod (K:PySem.W.Frag) (mg:Str→Option Value) (base:Heap):Prop where
 Tv:K.In base
 glob:base.Ns mainGlobals mg
 blt:∃ mb,base.Ns builtinsNs mb∧∀ x:Str,x≠"__name__"→mb x=bootBuiltins x
 nolimit:base.NoLimit
structure Cx where
 prog:Program
 w:World
 K:PySem.W.Frag
 mg:Str→Option Value
 base:Heap
 A:Around
 N:List Str
 s₀:Shared
 H₀:Hp
 env:Env
 outer:List Env
 stack:List Env
 ex:List Addr
 fn:Str→Bool
 calm:Bool
 pn:List (Addr × Obj)
 xe:Value→Shared→Prop
def frs (l:List Env):List Addr:=l.filterMap (·.frame)
abbrev Cx.fs (X:Cx):List Addr:=frs X.outer
def Vis (sc:Scope) (x:Str):Prop:=sc.names.lookup x=some .local∨sc.names.lookup x=some .cell∨sc.names.lookup x=some .free
def Loc (sc:Scope) (x:Str):Prop:=sc.names.lookup x=some .local∨sc.names.lookup x=some .cell
def Look (env:Env) (h:Heap) (m:Str→Option Value) (x:Str) (u:Value):Prop :=
 (env.kindOf x=some .local∧m x=some u)∨((env.kindOf x=some .cell∨env.kindOf x=some .free)∧∃ c,env.cells.lookup x=some c∧h.IsCell c (some u))
structure Cx.Ok (X:Cx):Prop where
 mod:Mod X.K X.mg X.base
 kind:X.env.scope.kind=.function
 glob:X.env.globals=mainGlobals
 blt:X.env.builtins=builtinsNs
 above:X.s₀.heap.objs.size≤X.env.locals
 inj:∀ x y c,X.env.cells.lookup x=some c→X.env.cells.lookup y=some c→x=y
 has:∀ x,(X.env.kindOf x=some .cell∨X.env.kindOf x=some .free)→∃ c,X.env.cells.lookup x=some c
 cab:∀ x c,X.fn x=true→X.env.cells.lookup x=some c→X.s₀.heap.objs.size≤c
 hd:X.calm=true→X.A.handled=none
 frames:X.A.frames=some X.stack
 Zk:X.stack=X.outer∨(X.stack=X.env::X.outer∧X.env.frame=some X.env.locals)
 exf:∀ b∈X.ex,b≠X.env.locals∧∀ x c,X.env.cells.lookup x=some c→c≠b
 bs:∀ b o,X.base.get? b=some o→X.s₀.heap.get? b=some o∧X.H₀ b=none
 Lk:X.base.objs.size≤X.s₀.heap.objs.size
 Nj:∀ b o,X.base.get? b=some o→b∉X.ex
 Rc:∀ b∈X.ex,b∉X.fs
 oO:X.s₀.heap.FunFrames X.base X.outer
 Nk:∀ b∈X.fs,X.H₀ b=none
structure Inv (X:Cx) (pins:List (Addr × Obj)) (σ:List (Option V)) (H:Hp) (s:Shared):Prop where
 ok:X.Ok
 os:s.os=X.s₀.os
 bare:AllBare s.gens
 base:Un X.fs X.ex X.H₀ H X.s₀.heap s.heap
 loc:∃ m,s.heap.Ns X.env.locals m∧∀ (i:Nat) (x:Str) (v:V),X.N[i]? = some x→σ[i]? = some (some v)→Vis X.env.scope x→∃ u,RelV v u∧Look X.env s.heap m x u
 cell:∀ x c,X.env.cells.lookup x=some c→∃ v,s.heap.IsCell c v
 free:H X.env.locals=none
 jh:∀ x c,X.env.cells.lookup x=some c→H c=none
 pin:∀ p∈X.pn++pins,s.heap.get? p.1=some p.2∧H p.1=none∧p.1≠X.env.locals∧p.1∉X.fs∧∀ v,p.2.data≠.cell v
 hok:pZ X.prog X.w H s.heap
 len:σ.length=X.N.length
section
variable {X:Cx}{pins:List (Addr × Obj)}{σ:List (Option V)}{H H':Hp}{s:Shared}{h':Heap}
theorem Cx.Ok.ajB (ok:X.Ok) {b:Addr}{o:Obj} (e:X.base.get? b=some o):b∉X.fs:=fun hb=>by
 have:=(ok.oO.mem hb).1
 rw [e] at this;cases this
theorem Inv.bs (I:Inv X pins σ H s):∀ b o,X.base.get? b=some o→s.heap.get? b=some o∧H b=none:=fun b o e =>
 ⟨I.base.keep b o (I.ok.bs b o e).1 (I.ok.bs b o e).2 (I.ok.ajB e) (I.ok.Nj b o e),I.base.free b o (I.ok.bs b o e).1 (I.ok.bs b o e).2 (I.ok.Nj b o e)⟩
theorem Inv.bk (I:Inv X pins σ H s):∀ b o,X.base.get? b=some o→s.heap.get? b=some o:=fun b o e=>(I.bs b o e).1
theorem Inv.mod (I:Inv X pins σ H s):Mod X.K X.mg X.base:=I.ok.mod
theorem Inv.wY (I:Inv X pins σ H s):X.K.In s.heap:=I.ok.mod.Tv.keeps I.bk
theorem Inv.nolimit (I:Inv X pins σ H s):s.heap.NoLimit:=I.ok.mod.nolimit.keeps I.bk
theorem Inv.fr (I:Inv X pins σ H s):∃ m,Fr X.base X.env.locals s.heap m :=
 let ⟨m,hn,_⟩:=I.loc
 ⟨m,hn,I.bk,Nat.le_trans I.ok.Lk I.ok.above⟩
theorem Inv.lt (I:Inv X pins σ H s):X.env.locals<s.heap.objs.size:=let ⟨_,hn,_⟩:=I.loc;hn.lt
theorem Inv.sz (I:Inv X pins σ H s):X.s₀.heap.objs.size≤s.heap.objs.size:=Nat.le_trans I.ok.above (Nat.le_of_lt I.lt)
theorem Inv.U6 (I:Inv X pins σ H s) {a:Addr} (h:s.heap.objs.size≤a):a∉X.fs:=fun hb=>by
 obtain⟨_,o,ho,_⟩:=I.ok.oO.mem hb
 exact absurd (Nat.lt_of_lt_of_le (Heap.lt_size ho) (Nat.le_trans I.sz h)) (Nat.lt_irrefl _)
theorem Inv.U7 (I:Inv X pins σ H s):∀ x c,X.env.cells.lookup x=some c→c≠X.env.locals:=fun x c e z=>by
 obtain⟨v,o,ho,hd⟩:=I.cell x c e
 obtain⟨m,⟨o',es,ep,ho',hd',_⟩,_⟩:=I.loc
 rw [z,ho'] at ho;cases ho;rw [hd'] at hd;cases hd
theorem Inv.oO (I:Inv X pins σ H s):s.heap.FunFrames X.base X.outer:=by
 have all:∀ (l:List Env),(∀ b∈frs l,b∈X.fs)→X.s₀.heap.FunFrames X.base l→s.heap.FunFrames X.base l:=by
   intro l
   induction l with
   | nil=>intro _ _;trivial
   | cons env r ih =>
     intro hs hl
     obtain⟨hk,⟨L,o,hf,hn,ho,hd⟩,hr⟩:=hl
     have hL:L∈X.fs:=hs L (by unfold frs;rw [List.filterMap_cons,hf];exact List.mem_cons_self)
     obtain⟨sl,e⟩:=I.base.slot L o ho (I.ok.Nk L hL) hL fun z=>I.ok.Rc L z hL
     exact⟨hk,⟨L,_,hf,hn,e,hd⟩,ih (fun b hb=>hs b (by unfold frs;rw [List.filterMap_cons,hf];exact List.mem_cons_of_mem _ hb)) hr⟩
 exact all X.outer (fun _ hb=>hb) I.ok.oO
theorem Inv.stack (I:Inv X pins σ H s):s.heap.FunFrames X.base X.stack:=by
 rcases I.ok.Zk with e | ⟨e,hf⟩
 · rw [e];exact I.oO
 · rw [e]
   obtain⟨m,hn,_⟩:=I.loc
   refine .cons (by rw [I.ok.kind];decide) hf hn ?_ I.oO
   exact Heap.get?_none_of_le (Nat.le_trans I.ok.Lk I.ok.above)
theorem Inv.wZ (I:Inv X pins σ H s):∀ b∈frs X.stack,b∈X.env.locals::X.fs:=fun b hb=>by
 rcases I.ok.Zk with e | ⟨e,hf⟩
 · rw [e] at hb;exact List.mem_cons_of_mem _ hb
 · rw [e] at hb
   unfold frs at hb
   rw [List.filterMap_cons,hf] at hb
   exact hb
theorem Inv.CN (I:Inv X pins σ H s):∀ b∈frs X.stack,H b=none:=fun b hb=>by
 rcases List.mem_cons.mp (I.wZ b hb) with e | hb
 · rw [e];exact I.free
 · obtain⟨_,o,ho,_⟩:=I.ok.oO.mem hb
   exact I.base.free b o ho (I.ok.Nk b hb) fun z=>I.ok.Rc b z hb
theorem Inv.step {g':Array GenState}{t':Nat}{d':Drawn}{ch:List Addr} (I:Inv X pins σ H s)
   (hch:∀ b∈ch,(b∈X.ex∨X.s₀.heap.objs.size≤b)∧b≠X.env.locals∧(∀ x c,X.env.cells.lookup x=some c→c≠b)∧∀ p∈X.pn++pins,p.1≠b)
   (keep:∀ b o,b≠X.env.locals→b∉X.fs→b∉ch→s.heap.get? b=some o→H b=none→h'.get? b=some o)
   (slot:∀ b o,b≠X.env.locals→b∈X.fs→b∉ch→s.heap.get? b=some o→H b=none→∃ sl,h'.get? b=some { o with slots:=sl }) (free:∀ b o,b∉ch→s.heap.get? b=some o→H b=none→H' b=none)
   (there:∀ b o,b∉ch→s.heap.get? b=some o→∃ o',h'.get? b=some o')
   (tups:∀ b xs,H b=some (.tup xs)→H' b=some (.tup xs)) (lZ:∀ b o u,H b=some (.qp o u)→H' b=some (.qp o u)) (mU:∀ b ps,H b=some (.lD ps)→∃ more,H' b=some (.lD (ps++more)))
   (ns:∀ m,s.heap.Ns X.env.locals m→h'.Ns X.env.locals m) (hok:pZ X.prog X.w H' h') (hg:AllBare g') :
   Inv X pins σ H' { s with heap:=h',gens:=g',drawn:=d',toks:=t' }:=by
 have neL:∀ b o,X.s₀.heap.get? b=some o→b≠X.env.locals:=fun b o e=>Nat.ne_of_lt (Nat.lt_of_lt_of_le (Heap.lt_size e) I.ok.above)
 have neC:∀ b o,X.s₀.heap.get? b=some o→b∉X.ex→b∉ch:=fun b o e hx hb=>by
   rcases (hch b hb).1 with z | z
   · exact hx z
   · exact absurd (Nat.lt_of_lt_of_le (Heap.lt_size e) z) (Nat.lt_irrefl _)
 have cellK:∀ x c,X.env.cells.lookup x=some c→∀ v,s.heap.IsCell c v→h'.IsCell c v:=fun x c e v ⟨o,ho,hd⟩=>by
   have Zm:c∉ch:=fun z=>(hch c z).2.2.1 x c e rfl
   by_cases hc:c∈X.fs
   · obtain⟨sl,q⟩:=slot c o (I.U7 x c e) hc Zm ho (I.jh x c e)
     exact⟨_,q,hd⟩
   · exact⟨o,keep c o (I.U7 x c e) hc Zm ho (I.jh x c e),hd⟩
 refine⟨I.ok,I.os,hg,⟨fun b o e n hb hx=>?_,fun b o e n hb hx=>?_,fun b o e n hx=>?_,fun b o e hx=>?_,fun b xs e=>tups b xs (I.base.tups b xs e),fun b o xs e=>lZ b o xs (I.base.lZ b o xs e),fun b ps e=>?_⟩,?_,fun x c e=>?_,?_,fun x c e=>?_,fun p hp=>?_,hok,I.len⟩
 · exact keep b o (neL b o e) hb (neC b o e hx) (I.base.keep b o e n hb hx) (I.base.free b o e n hx)
 · obtain⟨sl,e1⟩:=I.base.slot b o e n hb hx
   obtain⟨sl',e2⟩:=slot b _ (neL b o e) hb (neC b o e hx) e1 (I.base.free b o e n hx)
   exact⟨sl',e2⟩
 · obtain⟨o',e1⟩:=I.base.there b o e hx
   exact free b o' (neC b o e hx) e1 (I.base.free b o e n hx)
 · obtain⟨o',e1⟩:=I.base.there b o e hx
   exact there b o' (neC b o e hx) e1
 · obtain⟨m1,e1⟩:=I.base.mU b ps e
   obtain⟨m2,e2⟩:=mU b _ e1
   exact⟨m1++m2,by rw [e2,Array.append_assoc]⟩
 · obtain⟨m,hn,hl⟩:=I.loc
   refine⟨m,ns m hn,fun i x v e1 e2 e3=>?_⟩
   obtain⟨u,r,l⟩:=hl i x v e1 e2 e3
   refine⟨u,r,?_⟩
   rcases l with l | ⟨k,c,e,z⟩
   · exact .inl l
   · exact .inr ⟨k,c,e,cellK x c e _ z⟩
 · obtain⟨v,z⟩:=I.cell x c e
   exact⟨v,cellK x c e v z⟩
 · obtain⟨m,⟨o,_,_,ho,_⟩,_⟩:=I.loc
   exact free _ o (fun z=>(hch _ z).2.1 rfl) ho I.free
 · obtain⟨v,o,ho,hd⟩:=I.cell x c e
   exact free c o (fun z=>(hch c z).2.2.1 x c e rfl) ho (I.jh x c e)
 · obtain⟨e,n,ne,nf,d⟩:=I.pin p hp
   have Zm:p.1∉ch:=fun z=>(hch p.1 z).2.2.2 p hp rfl
   exact⟨keep p.1 p.2 ne nf Zm e n,free p.1 p.2 Zm e n,ne,nf,d⟩
theorem Inv.un {t':Nat} (I:Inv X pins σ H s) (u:Un X.fs [] H H' s.heap h') (hok:pZ X.prog X.w H' h'):Inv X pins σ H' { s with heap:=h',toks:=t' }:=by
 obtain⟨m,⟨o,es,ep,ho,r⟩,_⟩:=id I.loc
 obtain⟨sl,hL⟩:=u.any ho I.free (by simp)
 exact I.step (g':=s.gens) (d':=s.drawn) (ch:=[]) (fun _ z=>nomatch z) (fun b o _ hb _ e n=>u.keep b o e n hb (by simp)) (fun b o _ hb _ e n=>u.slot b o e n hb (by simp)) (fun b o _ e n=>u.free b o e n (by simp)) (fun b o _ e=>u.there b o e (by simp)) u.tups u.lZ u.mU (fun m' hm=>by
   obtain⟨o',es',ep',ho',r'⟩:=hm
   rw [ho] at ho';cases ho'
   exact⟨_,es',ep',hL,r'⟩) hok I.bare
theorem Inv.call {g':Array GenState}{t':Nat}{d':Drawn}{ch:List Addr} (I:Inv X pins σ H s) (u:Un (frs X.stack) ch H H' s.heap h') (hok:pZ X.prog X.w H' h') (hg:AllBare g')
   (hch:∀ b∈ch,(b∈X.ex∨X.s₀.heap.objs.size≤b)∧b≠X.env.locals∧(∀ x c,X.env.cells.lookup x=some c→c≠b)∧∀ p∈X.pn++pins,p.1≠b) :
   Inv X pins σ H' { s with heap:=h',gens:=g',drawn:=d',toks:=t' }:=by
 obtain⟨m,⟨o,es,ep,ho,r⟩,_⟩:=id I.loc
 obtain⟨sl,hL⟩:=u.any ho I.free fun z=>(hch _ z).2.1 rfl
 exact I.step (ch:=ch) hch (fun b o hL hb hc e n=>u.keep b o e n (fun z=>(List.mem_cons.mp (I.wZ b z)).elim hL hb) hc) (fun b o _ _ hc e n=>u.any e n hc) (fun b o hc e n=>u.free b o e n hc) (fun b o hc e=>u.there b o e hc) u.tups u.lZ u.mU (fun m' hm=>by
   obtain⟨o',es',ep',ho',r'⟩:=hm
   rw [ho] at ho';cases ho'
   exact⟨_,es',ep',hL,r'⟩) hok hg
theorem Inv.turned {t':Nat}{it:Addr} (I:Inv X pins σ H s) (k:∀ b o,b≠it→s.heap.get? b=some o→h'.get? b=some o) (hn:H it=none) (hL:it≠X.env.locals)
   (h1:it∈X.ex∨X.s₀.heap.objs.size≤it) (h2:∀ x c,X.env.cells.lookup x=some c→c≠it) (h3:∀ p∈X.pn++pins,p.1≠it):Inv X pins σ H { s with heap:=h',toks:=t' }:=by
 have nit:∀ b u,H b=some u→b≠it:=fun b u e z=>by rw [z,hn] at e;cases e
 refine I.step (g':=s.gens) (d':=s.drawn) (ch:=[it]) (fun b hb=>?_) (fun b o _ _ hc e _=>k b o (fun z=>hc (by simp [z])) e) (fun b o _ _ hc e _=>⟨o.slots,k b o (fun z=>hc (by simp [z])) e⟩) (fun _ _ _ _ n=>n)
   (fun b o hc e=>⟨o,k b o (fun z=>hc (by simp [z])) e⟩) (fun _ _ e=>e) (fun _ _ _ e=>e) (fun b ps e=>⟨#[],by rw [e];simp⟩) (fun m hm=>?_) (fun b u e=>?_) I.bare
 · have e:b=it:=by simpa using hb
   subst e
   exact⟨h1,hL,h2,h3⟩
 · obtain⟨o,es,ep,ho,r⟩:=hm
   exact⟨o,es,ep,k _ o (Ne.symm hL) ho,r⟩
 · refine (I.hok b u e).stay (fun c v hc q=>k c v ?_ q) (fun _ q=>q) fun _ _ q=>q
   rcases hc with z | z
   · rw [z];exact nit b u e
   · exact nit c _ z
theorem Inv.tok (I:Inv X pins σ H s) (t:Nat):Inv X pins σ H { s with toks:=t }:=I.un (h':=s.heap) (t':=t) Un.refl I.hok
theorem Inv.kept {t':Nat} (I:Inv X pins σ H s) (k:∀ b u,s.heap.get? b=some u→h'.get? b=some u):Inv X pins σ H { s with heap:=h',toks:=t' }:=I.un (Un.kept k) (I.hok.kept k)
theorem Inv.laid {a:Addr}{o:HO}{t':Nat} (I:Inv X pins σ H s) (k:∀ b u,s.heap.get? b=some u→h'.get? b=some u) (hp:s.heap.objs.size≤a) (new:cu X.prog X.w (upd H a o) h' a o) :
   Inv X pins σ (upd H a o) { s with heap:=h',toks:=t' }:=I.un (Un.laid k hp (I.hok.fresh hp)) (I.hok.laid k hp new)
theorem Inv.write {x e:Addr}{o:HO}{t':Nat} (I:Inv X pins σ H s) (mu:Zi (H x)) (he:e=x∨H e=some (.own x)) (k:∀ b u,b≠e→s.heap.get? b=some u→h'.get? b=some u) (heo:∃ u,h'.get? e=some u)
   (new:cu X.prog X.w (upd H x o) h' x o):Inv X pins σ (upd H x o) { s with heap:=h',toks:=t' }:=I.un (Un.write mu he k heo) (I.hok.write mu he k heo new)
theorem Inv.weak {σ':List (Option V)} (I:Inv X pins σ H s) (hl:σ'.length=σ.length) (w:∀ (i:Nat) v,σ'[i]? = some (some v)→σ[i]? = some (some v)):Inv X pins σ' H s :=
 ⟨I.ok,I.os,I.bare,I.base,let ⟨m,hn,hl'⟩:=I.loc; ⟨m,hn,fun i x v e1 e2 e3=>hl' i x v e1 (w i v e2) e3⟩,I.cell,I.free,I.jh,I.pin,I.hok,hl.trans I.len⟩
theorem Inv.jE {Ey:List (Addr × Obj)} (I:Inv X pins σ H s) (h:∀ p∈Ey,s.heap.get? p.1=some p.2∧H p.1=none∧p.1≠X.env.locals∧p.1∉X.fs∧∀ v,p.2.data≠.cell v):Inv X Ey σ H s :=
 ⟨I.ok,I.os,I.bare,I.base,I.loc,I.cell,I.free,I.jh,fun p hp=>(List.mem_append.mp hp).elim (fun z=>I.pin p (List.mem_append_left _ z)) (h p),I.hok,I.len⟩
theorem Ez {N:List Str} (hN:N.Nodup) {i j:Nat}{x:Str} (a:N[i]? = some x) (b:N[j]? = some x):i=j:=by
 obtain⟨h1,e1⟩:=List.getElem?_eq_some_iff.mp a
 obtain⟨h2,e2⟩:=List.getElem?_eq_some_iff.mp b
 exact (List.getElem_inj hN).mp (e1.trans e2.symm)
theorem uz {M:Model}{A:Around}{E:Value→Shared→Prop}{i:Nat}{x:Str}{v:V}{u:Value}{Q:Unit→Shared→Prop} (I:Inv X pins σ H s) (hN:X.N.Nodup) (hi:X.N[i]? = some x) (hx:Loc X.env.scope x) (r:RelV v u)
   (h:∀ s',Inv X pins (σ.set i (some v)) H s'→(∃ a,Heap.SameBut a s.heap s'.heap∧(a=X.env.locals∨X.env.cells.lookup x=some a))→Q () s') (hf:X.fn x=true∨X.env.scope.names.lookup x=some .local:=by first | exact .inl rfl | exact .inr rfl | assumption):wpAny M A (storeName X.env x u) Q E s:=by
 obtain⟨m,hn,hl⟩:=id I.loc
 have hcls:(X.env.scope.kind == .class || (X.env.scope.kind == .module && X.env.locals != X.env.globals))=false:=by rw [I.ok.kind];rfl
 have Zn:i<σ.length:=by rw [I.len];exact (List.getElem?_eq_some_iff.mp hi).1
 have U7:=I.U7
 have tracked:∀ {a:Addr}{h':Heap},(∃ o,s.heap.get? a=some o∧H a=none)→Heap.SameBut a s.heap h'→pZ X.prog X.w H h':=fun {a h'} ha hs b ob e=>by
   obtain⟨_,_,hfree⟩:=ha
   refine (I.hok b ob e).stay (fun c w' hc q=>(hs.2 c ?_).trans q) (fun _ q=>q) fun _ _ q=>q
   rintro rfl
   rcases hc with rfl | hc
   · rw [hfree] at e;cases e
   · rw [hfree] at hc;cases hc
 rcases hx with hk | hk
 · refine wpAny_storeName_local hk hn (fun h' hn' hs=>?_) hcls
   obtain⟨oL,_,_,hoL,_⟩:=id hn
   refine h _ ⟨I.ok,I.os,I.bare,⟨fun b o e n hb hx=>?_,fun b o e n hb hx=>?_,I.base.free,fun b o e hx=>?_,I.base.tups,I.base.lZ,I.base.mU⟩,⟨_,hn',fun j y v' e1 e2 e3=>?_⟩,fun y c e=>?_,I.free,I.jh,fun p hp=>?_,tracked ⟨oL,hoL,I.free⟩ hs,by simpa using I.len⟩ ⟨_,hs,.inl rfl⟩
   · exact (hs.2 b (Nat.ne_of_lt (Nat.lt_of_lt_of_le (Heap.lt_size e) I.ok.above))).trans (I.base.keep b o e n hb hx)
   · obtain⟨sl,e1⟩:=I.base.slot b o e n hb hx
     exact⟨sl,(hs.2 b (Nat.ne_of_lt (Nat.lt_of_lt_of_le (Heap.lt_size e) I.ok.above))).trans e1⟩
   · obtain⟨o',e1⟩:=I.base.there b o e hx
     exact⟨o',(hs.2 b (Nat.ne_of_lt (Nat.lt_of_lt_of_le (Heap.lt_size e) I.ok.above))).trans e1⟩
   · by_cases hj:j=i
     · subst hj
       rw [hi] at e1;cases e1
       rw [List.getElem?_set_self Zn] at e2
       cases e2
       exact⟨u,r,.inl ⟨hk,by simp⟩⟩
     · rw [List.getElem?_set_ne (Ne.symm hj)] at e2
       obtain⟨u',r',q⟩:=hl j y v' e1 e2 e3
       refine⟨u',r',?_⟩
       rcases q with ⟨k,e⟩ | ⟨k,c,e,z⟩
       · refine .inl ⟨k,?_⟩
         have:y≠x:=fun e=>hj (Ez hN e1 (e ▸ hi))
         simp [this,e]
       · exact .inr ⟨k,c,e,z.sameBut hs (U7 y c e)⟩
   · obtain⟨w',z⟩:=I.cell y c e
     exact⟨w',z.sameBut hs (U7 y c e)⟩
   · obtain⟨e,n,ne,nf,d⟩:=I.pin p hp
     exact⟨(hs.2 p.1 ne).trans e,n,ne,nf,d⟩
 · have hfn:X.fn x=true:=by
     rcases hf with z | z
     · exact z
     · rw [z] at hk;cases hk
   obtain⟨c,hc⟩:=I.ok.has x (.inl hk)
   obtain⟨w',z⟩:=I.cell x c hc
   refine wpAny_storeName_cell I.ok.kind hk hc z (fun h' hc' hs=>?_)
   obtain⟨oc,hoc,ajC⟩:=id z
   refine h { s with heap:=h' } ⟨I.ok,I.os,I.bare,⟨fun b o e n hb hx=>?_,fun b o e n hb hx=>?_,I.base.free,fun b o e hx=>?_,I.base.tups,I.base.lZ,I.base.mU⟩,⟨m,hn.sameBut hs (Ne.symm (U7 x c hc)),fun j y v' e1 e2 e3=>?_⟩,fun y c' e=>?_,I.free,I.jh,fun p hp=>?_,tracked ⟨oc,hoc,I.jh x c hc⟩ hs,by simpa using I.len⟩ ⟨c,hs,.inr hc⟩
   · exact (hs.2 b (Nat.ne_of_lt (Nat.lt_of_lt_of_le (Heap.lt_size e) (I.ok.cab x c hfn hc)))).trans (I.base.keep b o e n hb hx)
   · obtain⟨sl,e1⟩:=I.base.slot b o e n hb hx
     exact⟨sl,(hs.2 b (Nat.ne_of_lt (Nat.lt_of_lt_of_le (Heap.lt_size e) (I.ok.cab x c hfn hc)))).trans e1⟩
   · obtain⟨o',e1⟩:=I.base.there b o e hx
     exact⟨o',(hs.2 b (Nat.ne_of_lt (Nat.lt_of_lt_of_le (Heap.lt_size e) (I.ok.cab x c hfn hc)))).trans e1⟩
   · by_cases hj:j=i
     · subst hj
       rw [hi] at e1;cases e1
       rw [List.getElem?_set_self Zn] at e2
       cases e2
       exact⟨u,r,.inr ⟨.inl hk,c,hc,hc'⟩⟩
     · rw [List.getElem?_set_ne (Ne.symm hj)] at e2
       obtain⟨u',r',q⟩:=hl j y v' e1 e2 e3
       refine⟨u',r',?_⟩
       rcases q with q | ⟨k,c',e,z'⟩
       · exact .inl q
       · refine .inr ⟨k,c',e,z'.sameBut hs ?_⟩
         rintro rfl
         exact hj (Ez hN e1 (I.ok.inj _ _ _ e hc ▸ hi))
   · by_cases hcc:c'=c
     · subst hcc;exact⟨_,hc'⟩
     · obtain⟨w2,z2⟩:=I.cell y c' e
       exact⟨w2,z2.sameBut hs hcc⟩
   · obtain⟨e,n,ne,nf,d⟩:=I.pin p hp
     refine⟨(hs.2 p.1 ?_).trans e,n,ne,nf,d⟩
     intro q
     rw [q,hoc] at e
     have q':oc=p.2:=Option.some.inj e
     exact d w' (by rw [← q'];exact ajC)
theorem w5 {M:Model}{A:Around}{E:Value→Shared→Prop}{i:Nat}{x:Str}{v:V}{u:Value}{Q:Unit→Shared→Prop} (I:Inv X pins σ H s) (hN:X.N.Nodup) (hi:X.N[i]? = some x) (hx:Loc X.env.scope x) (r:RelV v u)
   (h:∀ s',Inv X pins (σ.set i (some v)) H s'→Q () s') (hf:X.fn x=true∨X.env.scope.names.lookup x=some .local:=by first | exact .inl rfl | exact .inr rfl | assumption):wpAny M A (storeName X.env x u) Q E s :=
 uz I hN hi hx r (fun s' I' _=>h s' I') hf
theorem Inv.call' {s':Shared}{ch:List Addr} (I:Inv X pins σ H s) (ho:s'.os=s.os) (u:Un (frs X.stack) ch H H' s.heap s'.heap) (hok:pZ X.prog X.w H' s'.heap) (hg:AllBare s'.gens)
   (hch:∀ b∈ch,(b∈X.ex∨X.s₀.heap.objs.size≤b)∧b≠X.env.locals∧(∀ x c,X.env.cells.lookup x=some c→c≠b)∧∀ p∈X.pn++pins,p.1≠b):Inv X pins σ H' s':=by
 obtain⟨h',g',d',t',o'⟩:=s'
 have e:o'=s.os:=ho
 subst e
 exact I.call (g':=g') (t':=t') (d':=d') u hok hg hch
end
abbrev XK:=Value→Option Addr→Hp→Prop
abbrev St:=List (Option V)
abbrev VK:=V→Hp→Prop
abbrev TE:=St→Hp→VK→Prop
abbrev TT:=St→Hp→(Bool→Hp→Prop)→Prop
abbrev TA:=St→Hp→(List V→Hp→Prop)→Prop
structure Ends where
 nx:St→Hp→Prop
 rt:VK
 bk:St→Hp→Prop:=fun _ _=>False
 ct:St→Hp→Prop:=fun _ _=>False
abbrev TS:=Ends→St→Hp→Prop
def EP (X:Cx) (pins:List (Addr × Obj)) (σ:St) (Q:VK) (u:Value) (s':Shared):Prop:=∃ v H',Inv X pins σ H' s'∧RelV v u∧Q v H'
def TP (X:Cx) (pins:List (Addr × Obj)) (σ:St) (Q:Bool→Hp→Prop) (b:Bool) (s':Shared):Prop:=∃ H',Inv X pins σ H' s'∧Q b H'
def AP (X:Cx) (pins:List (Addr × Obj)) (σ:St) (Q:List V→Hp→Prop) (us:List Value) (s':Shared):Prop:=∃ vs H',Inv X pins σ H' s'∧Vals vs us∧Q vs H'
def SP (X:Cx) (pins:List (Addr × Obj)) (D:Ends) (f:Flow) (s':Shared):Prop :=
 match f with
 | .next=>∃ σ' H',Inv X pins σ' H' s'∧D.nx σ' H'
 | .brk=>∃ σ' H',Inv X pins σ' H' s'∧D.bk σ' H'
 | .cont=>∃ σ' H',Inv X pins σ' H' s'∧D.ct σ' H'
 | .ret u=>∃ v σ' H',Inv X pins σ' H' s'∧RelV v u∧D.rt v H'
def PE (X:Cx) (e:Expr) (t:TE):Prop :=
 ∀ (pins:List (Addr × Obj)) (s:Shared) (σ:St) (H:Hp) (Q:VK),Inv X pins σ H s→t σ H Q→wpAny (model X.prog X.w) X.A (eval e X.env) (EP X pins σ Q) X.xe s
def PT (X:Cx) (e:Expr) (t:TT):Prop :=
 ∀ (pins:List (Addr × Obj)) (s:Shared) (σ:St) (H:Hp) (Q:Bool→Hp→Prop),Inv X pins σ H s→t σ H Q→wpAny (model X.prog X.w) X.A (isTrue e X.env (eval e X.env)) (TP X pins σ Q) X.xe s
def PW (X:Cx) (e:Expr) (t:TT):Prop :=
 ∀ (whole:Sem Value) (pins:List (Addr × Obj)) (s:Shared) (σ:St) (H:Hp) (Q:Bool→Hp→Prop),Inv X pins σ H s→t σ H Q→wpAny (model X.prog X.w) X.A (isTrue e X.env whole) (TP X pins σ Q) X.xe s
theorem PW.pt {X:Cx}{e:Expr}{t:TT} (h:PW X e t):PT X e t:=h _
def PA (X:Cx) (es:List Expr) (t:TA):Prop :=
 ∀ (pos:Pos) (pins:List (Addr × Obj)) (s:Shared) (σ:St) (H:Hp) (Q:List V→Hp→Prop),Inv X pins σ H s→t σ H Q→wpAny (model X.prog X.w) X.A (spliced (backTo pos (starEach es X.env))) (AP X pins σ Q) X.xe s
def PS (X:Cx) (st:Stmt) (t:TS):Prop :=
 ∀ (pins:List (Addr × Obj)) (s:Shared) (σ:St) (H:Hp) (D:Ends),Inv X pins σ H s→t D σ H→wpAny (model X.prog X.w) X.A (exec st X.env) (SP X pins D) X.xe s
def nU (X:Cx) (st:List Stmt) (t:TS):Prop :=
 ∀ (pins:List (Addr × Obj)) (s:Shared) (σ:St) (H:Hp) (D:Ends),Inv X pins σ H s→t D σ H→wpAny (model X.prog X.w) X.A (execs st X.env) (SP X pins D) X.xe s
theorem dm {α:Type}{t:Sem α}{Q Q':α→Shared→Prop}{M:Model}{A:Around}{E:Value→Shared→Prop}{s:Shared} (h:wpAny M A t Q E s) (hQ:∀ a s,Q a s→Q' a s):wpAny M A t Q' E s:=wpAny_mono h hQ fun _ _ x=>x
end L2
namespace L2
open PySem PySem.Spec PyProof.Rows
section
variable {X:Cx}
def mV (i:Nat):TE:=fun σ H Q=>∃ v,σ[i]? = some (some v)∧Q v H
def tC (v:V):TE:=fun _ H Q=>Q v H
theorem U8 {i:Nat}{x:Str}{pos:Pos} (hN:X.N[i]? = some x) (hv:Vis X.env.scope x) (hd:(x == ("__debug__":Str))=false:=by decide) (hcd:(x == ("__classdict__":Str))=false:=by decide):PE X (.Name x pos) (mV i):=by
 intro pins s σ H Q I h
 obtain⟨v,e,h⟩:=h
 obtain⟨m,hn,hl⟩:=I.loc
 obtain⟨u,r,l⟩:=hl i x v hN e hv
 have fin:EP X pins σ Q u s:=⟨v,H,I,r,h⟩
 rcases l with ⟨hk,hm⟩ | ⟨hk,c,hc,hcell⟩
 · exact wpAny_Name (wpAny_loadName_local I.ok.kind hk hn hm fin) hd
 · rcases hk with hk | hk
   · exact wpAny_Name (wpAny_loadName_cell I.ok.kind hk hc hcell fin) hd
   · exact wpAny_Name (wpAny_loadName_free I.ok.kind hk hc hcell fin hcd) hd
theorem zG {i j pos}:PE X (.Constant (.int i) j pos) (tC (.int i)):=fun _ _ _ H _ I h=>wpAny_Constant_int ⟨.int i,H,I.tok _,⟨_,rfl⟩,h⟩
theorem xM {b j pos}:PE X (.Constant (.bool b) j pos) (tC (.bl b)):=fun _ _ _ H _ I h=>Constant_bool ⟨.bl b,H,I,rfl,h⟩
theorem yF {j pos}:PE X (.Constant .none j pos) (tC .non):=fun _ _ _ H _ I h=>Constant_none ⟨.non,H,I,rfl,h⟩
theorem yB {x j pos}:PE X (.Constant (.str x) j pos) (tC (.str x)):=fun _ _ _ H _ I h=>Calls.Constant_str ⟨.str x,H,I.tok _,⟨_,rfl⟩,h⟩
def Gl (X:Cx) (x:Str):Prop:=X.env.kindOf x=some .globalImplicit
theorem p7 {E:Value→Shared→Prop}{pins:List (Addr × Obj)}{s:Shared}{σ:St}{H:Hp}{x:Str}{u:Value}{pos:Pos}{Q:Value→Shared→Prop} (I:Inv X pins σ H s) (hg:Gl X x) (hm:X.mg x=some u) (h:Q u s)
   (hd:(x == ("__debug__":Str))=false:=by decide):wpAny (model X.prog X.w) X.A (eval (.Name x pos) X.env) Q E s :=
 Calls.Name_function_global I.ok.kind hg (Calls.loadGlobal_global (by rw [I.ok.glob];exact I.mod.glob.keeps I.bk) hm h) hd
theorem CP {E:Value→Shared→Prop}{pins:List (Addr × Obj)}{s:Shared}{σ:St}{H:Hp}{x:Str}{u:Value}{pos:Pos}{Q:Value→Shared→Prop} (I:Inv X pins σ H s) (hg:Gl X x) (hm:X.mg x=none) (hv:bootBuiltins x=some u) (h:Q u s)
   (hn:x≠"__name__":=by decide) (hd:(x == ("__debug__":Str))=false:=by decide):wpAny (model X.prog X.w) X.A (eval (.Name x pos) X.env) Q E s:=by
 obtain⟨mb,h1,h2⟩:=I.mod.blt
 exact Calls.Name_function_global I.ok.kind hg (Calls.loadGlobal_builtin (by rw [I.ok.glob];exact I.mod.glob.keeps I.bk) hm (by rw [I.ok.blt];exact h1.keeps I.bk) ((h2 x hn).trans hv) h) hd
theorem Rf {x:Str}{v:V}{u:Value}{pos:Pos} (hg:Gl X x) (hm:X.mg x=some u) (r:RelV v u) (hd:(x == ("__debug__":Str))=false:=by decide):PE X (.Name x pos) (tC v) :=
 fun _ _ _ H _ I h=>p7 I hg hm ⟨v,H,I,r,h⟩ hd
theorem yZ {x:Str}{v:V}{u:Value}{pos:Pos} (hg:Gl X x) (hm:X.mg x=none) (hv:bootBuiltins x=some u) (r:RelV v u) (hn:x≠"__name__":=by decide) (hd:(x == ("__debug__":Str))=false:=by decide):PE X (.Name x pos) (tC v) :=
 fun _ _ _ H _ I h=>CP I hg hm hv ⟨v,H,I,r,h⟩ hn hd
variable {a b:Expr}{ta tb:TE}{pos:Pos}
def PC (X:Cx) (op:CmpOp) (a b:Expr) (t:TE):Prop :=
 ∀ (pins:List (Addr × Obj)) (s:Shared) (σ:St) (H:Hp) (Q:VK),Inv X pins σ H s→t σ H Q →
   wpAny (model X.prog X.w) X.A (eval a X.env) (fun v s₁=>wpAny (model X.prog X.w) X.A (eval b X.env) (fun u s₂=>wpAny (model X.prog X.w) X.A (compareOp op v u) (EP X pins σ Q) X.xe s₂) X.xe s₁) X.xe s
def tB (t:TE):TT:=fun σ H Q=>t σ H fun x H1=>∃ c,x=.bl c∧Q c H1
theorem yO {e:Expr}{t:TE} (h:PE X e t) (he:∀ whole,isTrue e X.env whole=(do let v ← whole;standAt e.pos;holding [v] (truthy v)):=by intro _;rfl):PT X e (tB t):=by
 intro pins s σ H Q I hw
 refine isTrue_plain (dm (h pins s σ H _ I hw) fun v s1 ⟨x,H1,I1,r1,q1⟩=>?_) (he _)
 obtain⟨d,rfl,q⟩:=q1
 cases r1
 exact wpAny_truthy_bool ⟨H1,I1,q⟩
variable {tA tB':TT}{rest:List Expr}
def Rh (t u:TT):TT:=fun σ H Q=>t σ H fun c H1=>if c=true then u σ H1 Q else Q false H1
def Zo (t u:TT):TT:=fun σ H Q=>t σ H fun c H1=>if c=true then Q true H1 else u σ H1 Q
def ajD (t:TT):TT:=fun σ H Q=>t σ H fun c H1=>Q (!c) H1
theorem xP (ha:PT X a tA):PW X (.BoolOp .And [a] pos) tA:=by
 intro wh pins s σ H Q I h
 refine isTrue_and (dm (ha pins s σ H Q I h) fun c s1 e=>?_)
 cases c with
 | true=>exact isTrue_and_nil e
 | false=>exact e
theorem mj (ha:PT X a tA):PW X (.BoolOp .Or [a] pos) tA:=by
 intro wh pins s σ H Q I h
 refine isTrue_or (dm (ha pins s σ H Q I h) fun c s1 e=>?_)
 cases c with
 | false=>exact isTrue_or_nil e
 | true=>exact e
theorem jn (ha:PT X a tA) (hb:PW X (.BoolOp .And (b::rest) pos) tB'):PW X (.BoolOp .And (a::b::rest) pos) (Rh tA tB'):=by
 intro wh pins s σ H Q I h
 refine isTrue_and (dm (ha pins s σ H _ I h) fun c s1 zq=>?_)
 obtain⟨H1,I1,q1⟩:=zq
 cases c with
 | true=>exact hb wh pins s1 σ H1 Q I1 q1
 | false=>exact⟨H1,I1,q1⟩
theorem qM (ha:PT X a tA) (hb:PW X (.BoolOp .Or (b::rest) pos) tB'):PW X (.BoolOp .Or (a::b::rest) pos) (Zo tA tB'):=by
 intro wh pins s σ H Q I h
 refine isTrue_or (dm (ha pins s σ H _ I h) fun c s1 zq=>?_)
 obtain⟨H1,I1,q1⟩:=zq
 cases c with
 | true=>exact⟨H1,I1,q1⟩
 | false=>exact hb wh pins s1 σ H1 Q I1 q1
theorem mq (ha:PT X a tA):PT X (.UnaryOp .Not a pos) (ajD tA):=by
 intro pins s σ H Q I h
 exact isTrue_not (ha pins s σ H (fun c H1=>Q (!c) H1) I h)
def Zq (ta tb:TE):TE:=fun σ H Q=>ta σ H fun x H1=>∃ c,x=.bl c∧if c=true then tb σ H1 Q else Q (.bl false) H1
theorem Ie {op}{t:TE} (h:PE X a t):PE X (.BoolOp op [a] pos) t:=fun pins s σ H Q I hw=>BoolOp_one (h pins s σ H Q I hw)
theorem CQ (ha:PE X a ta) (hb:PE X (.BoolOp .And (b::rest) pos) tb):PE X (.BoolOp .And (a::b::rest) pos) (Zq ta tb):=by
 intro pins s σ H Q I h
 refine BoolOp_and (dm (ha pins s σ H _ I h) fun v s1 zq=>?_)
 obtain⟨x,H1,I1,r1,q1⟩:=zq
 obtain⟨c,rfl,q1⟩:=q1
 cases r1
 refine wpAny_truthy_bool ?_
 cases c with
 | true=>exact hb pins s1 σ H1 Q I1 q1
 | false=>exact⟨.bl false,H1,I1,rfl,q1⟩
def tIf (t:TT) (ta tb:TE):TE:=fun σ H Q=>t σ H fun c H1=>if c=true then ta σ H1 Q else tb σ H1 Q
theorem oR {c:Expr} (hc:PT X c tA) (ha:PE X a ta) (hb:PE X b tb):PE X (.IfExp c a b pos) (tIf tA ta tb):=by
 intro pins s σ H Q I h
 refine wpAny_IfExp (dm (hc pins s σ H _ I h) fun d s1 zq=>?_)
 obtain⟨H1,I1,q1⟩:=zq
 cases d with
 | true=>exact ha pins s1 σ H1 Q I1 q1
 | false=>exact hb pins s1 σ H1 Q I1 q1
end
end L2
namespace L2
open PySem PySem.Spec PyProof.Rows
def b7 (K:PySem.W.Frag) (H:Hp) (a:Addr) (xs:List V):Prop :=
 Rd H a (.lst xs) ∨
   ∃ (o:Obj) (its:Array Value) (n:Nat),K.lookup a=some o∧o.cls=.type "list"∧o.dict=none∧o.data=.seq its n∧its.size≤sizeLine∧Vals xs its.toList
def ik (K:PySem.W.Frag) (H:Hp) (a:Addr) (xs:List V):Prop :=
 Rd H a (.tup xs) ∨
   ∃ (o:Obj) (its:Array Value) (n:Nat),K.lookup a=some o∧o.cls=.type "tuple"∧o.data=.seq its n∧its.size≤sizeLine∧Vals xs its.toList
def ajE:Value→Option V
 | .none=>some .non
 | .bool b=>some (.bl b)
 | .int i _=>some (.int i)
 | .str x _=>some (.str x)
 | .bytes b _=>some (.HX b)
 | .float b _=>some (.flt b)
 | .ref a=>some (.ref a)
 | .type n=>some (.ty n)
 | _=>none
theorem RelV.abs {x:V}{u:Value} (r:RelV x u):ajE u=some x:=by
 cases x with
 | non=>cases r;rfl
 | bl _=>cases r;rfl
 | int _=>obtain⟨t,rfl⟩:=r;rfl
 | str _=>obtain⟨t,rfl⟩:=r;rfl
 | HX _=>obtain⟨t,rfl⟩:=r;rfl
 | flt _=>obtain⟨t,rfl⟩:=r;rfl
 | ref _=>cases r;rfl
 | ty _=>cases r;rfl
theorem RelV.inj {x y:V}{u:Value} (r:RelV x u) (q:RelV y u):x=y:=Option.some.inj (r.abs.symm.trans q.abs)
theorem Vals.inj:∀ {xs ys:List V}{us:List Value},Vals xs us→Vals ys us→xs=ys
 | _,_,_,.nil,.nil=>rfl
 | _,_,_,.cons r t,.cons r' t'=>by rw [r.inj r',Vals.inj t t']
section
variable {X:Cx}{pins:List (Addr × Obj)}{σ:St}{H:Hp}{s:Shared}{a:Addr}{xs ys:List V}
theorem b7.of {K:PySem.W.Frag} (h:H a=some (.lst xs)):b7 K H a xs:=.inl (.inl h)
theorem ik.of {K:PySem.W.Frag} (h:H a=some (.tup xs)):ik K H a xs:=.inl (.inl h)
theorem Inv.list (I:Inv X pins σ H s) (h:b7 X.K H a xs):∃ its:List Value,Vals xs its∧PlainL s.heap a its.toArray∧xs.length≤sizeLine:=by
 rcases h with h | ⟨o,its,n,hk,hc,hd,hs,hz,r⟩
 · obtain⟨z,its,n,r,e⟩:=h.ok I.hok
   exact⟨its,r,⟨_,n,e,rfl,rfl,rfl⟩,z⟩
 · refine⟨its.toList,r,⟨o,n,I.wY a o hk,hc,hd,by simpa using hs⟩,?_⟩
   have e:=r.length
   simp only [Array.length_toList] at e
   omega
theorem Inv.tuple (I:Inv X pins σ H s) (h:ik X.K H a xs):∃ its:List Value,Vals xs its∧IsTup s.heap a its.toArray∧xs.length≤sizeLine:=by
 rcases h with h | ⟨o,its,n,hk,hc,hs,hz,r⟩
 · obtain⟨z,its,r,p⟩:=h.ok I.hok
   exact⟨its,r,p,z⟩
 · refine⟨its.toList,r,⟨o,I.wY a o hk,hc,n,by simpa using hs⟩,?_⟩
   have e:=r.length
   simp only [Array.length_toList] at e
   omega
theorem Inv.Np (I:Inv X pins σ H s) (h:b7 X.K H a xs) (h':b7 X.K H a ys):xs=ys:=by
 obtain⟨its,r,⟨o,n,e,_,_,d⟩,_⟩:=I.list h
 obtain⟨its',r',⟨o',n',e',_,_,d'⟩,_⟩:=I.list h'
 rw [e] at e';cases e'
 rw [d] at d'
 injection d' with d1 _
 have:its=its':=by simpa using congrArg Array.toList d1
 subst this
 exact r.inj r'
theorem Inv.Ln (I:Inv X pins σ H s) (h:ik X.K H a xs) (h':ik X.K H a ys):xs=ys:=by
 obtain⟨its,r,⟨o,e,_,n,d⟩,_⟩:=I.tuple h
 obtain⟨its',r',⟨o',e',_,n',d'⟩,_⟩:=I.tuple h'
 rw [e] at e';cases e'
 rw [d] at d'
 injection d' with d1 _
 have:its=its':=by simpa using congrArg Array.toList d1
 subst this
 exact r.inj r'
end
abbrev Cx.wish (X:Cx) (E:Value→Shared→Prop):Cx:={ X with xe:=E }
abbrev Cx.Aj (X:Cx):Cx:=X.wish fun _ _=>False
theorem Cx.Ok.wish {X:Cx} (ok:X.Ok) (E:Value→Shared→Prop):(X.wish E).Ok :=
 ⟨ok.mod,ok.kind,ok.glob,ok.blt,ok.above,ok.inj,ok.has,ok.cab,ok.hd,ok.frames,ok.Zk,ok.exf,ok.bs,ok.Lk,ok.Nj,ok.Rc,ok.oO,ok.Nk⟩
theorem Cx.Ok.jo {X:Cx}{E:Value→Shared→Prop} (ok:(X.wish E).Ok):X.Ok :=
 ⟨ok.mod,ok.kind,ok.glob,ok.blt,ok.above,ok.inj,ok.has,ok.cab,ok.hd,ok.frames,ok.Zk,ok.exf,ok.bs,ok.Lk,ok.Nj,ok.Rc,ok.oO,ok.Nk⟩
section
variable {X:Cx}{pins:List (Addr × Obj)}{σ:St}{H:Hp}{s:Shared}{E:Value→Shared→Prop}
theorem Inv.wish (I:Inv X pins σ H s) (E:Value→Shared→Prop):Inv (X.wish E) pins σ H s:=⟨I.ok.wish E,I.os,I.bare,I.base,I.loc,I.cell,I.free,I.jh,I.pin,I.hok,I.len⟩
theorem Inv.jo (I:Inv (X.wish E) pins σ H s):Inv X pins σ H s:=⟨I.ok.jo,I.os,I.bare,I.base,I.loc,I.cell,I.free,I.jh,I.pin,I.hok,I.len⟩
theorem SP.jo {D:Ends}{f:Flow}{s':Shared} (h:SP (X.wish E) pins D f s'):SP X pins D f s':=by
 cases f with
 | next=>obtain⟨σ',H',I,q⟩:=h;exact⟨σ',H',I.jo,q⟩
 | brk=>obtain⟨σ',H',I,q⟩:=h;exact⟨σ',H',I.jo,q⟩
 | cont=>obtain⟨σ',H',I,q⟩:=h;exact⟨σ',H',I.jo,q⟩
 | ret u=>obtain⟨v,σ',H',I,r,q⟩:=h;exact⟨v,σ',H',I.jo,r,q⟩
theorem PE.Aj {e:Expr}{t:TE} (h:PE X.Aj e t):PE X e t:=fun pins s σ H Q I hw =>
 wpAny_mono (h pins s σ H Q (I.wish _) hw) (fun _ _ ⟨v,H',I',r,q⟩=>⟨v,H',I'.jo,r,q⟩) fun _ _ z=>False.elim z
theorem PT.Aj {e:Expr}{t:TT} (h:PT X.Aj e t):PT X e t:=fun pins s σ H Q I hw =>
 wpAny_mono (h pins s σ H Q (I.wish _) hw) (fun _ _ ⟨H',I',q⟩=>⟨H',I'.jo,q⟩) fun _ _ z=>False.elim z
theorem nU.Aj {st:List Stmt}{t:TS} (h:nU X.Aj st t):nU X st t:=fun pins s σ H D I hw =>
 wpAny_mono (h pins s σ H D (I.wish _) hw) (fun _ _ q=>q.jo) fun _ _ z=>False.elim z
end
section
variable {X:Cx}{st:Stmt}{rest:List Stmt}{t u:TS}{e:Expr}{te:TE}{pos:Pos}
def EY:TS:=fun D σ H=>D.nx σ H
def Ri (t u:TS):TS:=fun D σ H=>t { D with nx:=u D } σ H
theorem zR:nU X [] EY:=fun _ _ σ H _ I h=>wpAny_execs_nil ⟨σ,H,I,h⟩
theorem zC (h1:PS X st t) (h2:nU X rest u):nU X (st::rest) (Ri t u):=by
 intro pins s σ H D I h
 refine wpAny_execs_cons (dm (h1 pins s σ H { D with nx:=u D } I h) fun f s1 q=>?_)
 cases f with
 | next =>
   obtain⟨σ',H',I',q⟩:=q
   exact h2 pins s1 σ' H' D I' q
 | ret v=>exact q
 | brk=>exact q
 | cont=>exact q
theorem zE (h1:PS X st t):nU X [st] t:=by
 intro pins s σ H D I h
 refine wpAny_execs_cons (dm (h1 pins s σ H D I h) fun f s1 q=>?_)
 cases f with
 | next=>exact wpAny_execs_nil q
 | ret v=>exact q
 | brk=>exact q
 | cont=>exact q
theorem Inv.quiet {pins:List (Addr × Obj)}{σ:St}{H:Hp}{s:Shared} (I:Inv X pins σ H s):interactive X.env=false:=by simp [interactive,I.ok.kind]
def Zr (te:TE):TS:=fun D σ H=>te σ H fun _ H1=>D.nx σ H1
theorem yQ (he:PE X e te) (hs:swapsWith e none pos.line X.env=pure false:=by rfl):PS X (.Expr e pos) (Zr te):=by
 intro pins s σ H D I h
 exact wpAny_Expr_any (dm (he pins s σ H _ I h) fun v s1 ⟨x,H1,I1,r1,q1⟩=>⟨σ,H1,I1,q1⟩) I.quiet hs
def Rj (te:TE):TS:=fun D σ H=>te σ H D.rt
theorem zN (he:PE X e te):PS X (.Return (some e) pos) (Rj te):=by
 intro pins s σ H D I h
 exact wpAny_Return_some (dm (he pins s σ H _ I h) fun v s1 ⟨x,H1,I1,r1,q1⟩=>⟨x,σ,H1,I1,r1,q1⟩)
def Zt:TS:=fun D _ H=>D.rt .non H
theorem Rk:PS X (.Return none pos) Zt:=fun _ _ σ H _ I h=>wpAny_Return_none ⟨.non,σ,H,I,rfl,h⟩
def U9 (c:TT) (t u:TS):TS:=fun D σ H=>c σ H fun b H1=>if b=true then t D σ H1 else u D σ H1
theorem yA {c:Expr}{a b:List Stmt}{tc:TT} (hc:PT X c tc) (ha:nU X a t) (hb:nU X b u):PS X (.If c a b pos) (U9 tc t u):=by
 intro pins s σ H D I h
 refine wpAny_If (dm (hc pins s σ H _ I h) fun d s1 zq=>?_)
 obtain⟨H1,I1,q1⟩:=zq
 cases d with
 | true=>exact ha pins s1 σ H1 D I1 q1
 | false=>exact hb pins s1 σ H1 D I1 q1
end
abbrev TG:=V→St→Hp→(St→Hp→Prop)→Prop
abbrev Va:=List V→St→Hp→(St→Hp→Prop)→Prop
def PG (X:Cx) (target:Expr) (t:TG):Prop :=
 ∀ (pins:List (Addr × Obj)) (s:Shared) (σ:St) (H:Hp) (v:V) (u:Value) (Q:St→Hp→Prop),Inv X pins σ H s→RelV v u→t v σ H Q →
   wpAny (model X.prog X.w) X.A (assign target X.env u) (fun _ s'=>∃ σ' H',Inv X pins σ' H' s'∧Q σ' H') X.xe s
def vX (X:Cx) (ts:List Expr) (t:Va):Prop :=
 ∀ (pins:List (Addr × Obj)) (s:Shared) (σ:St) (H:Hp) (vs:List V) (us:List Value) (Q:St→Hp→Prop),Inv X pins σ H s→Vals vs us→t vs σ H Q →
   wpAny (model X.prog X.w) X.A (assignInOrder ((assignEach ts X.env).map (·.2)) us) (fun _ s'=>∃ σ' H',Inv X pins σ' H' s'∧Q σ' H') X.xe s
abbrev ajF:=V→V→V→Hp→(Hp→Prop)→Prop
def my (X:Cx) (t:ajF):Prop :=
 ∀ (pins:List (Addr × Obj)) (s:Shared) (σ:St) (H:Hp) (o i v:V) (ov iv u:Value) (Q:Hp→Prop),Inv X pins σ H s→RelV o ov→RelV i iv→RelV v u→t o i v H Q →
   wpAny (model X.prog X.w) X.A (setItem ov iv u) (fun _ s'=>∃ H',Inv X pins σ H' s'∧Q H') X.xe s
section
variable {X:Cx}{pos:Pos}
def dH (i:Nat):TG:=fun v σ H Q=>Q (σ.set i (some v)) H
theorem yL {i:Nat}{x:Str} (hN:X.N.Nodup) (hi:X.N[i]? = some x) (hx:Loc X.env.scope x) (hf:X.fn x=true∨X.env.scope.names.lookup x=some .local:=by first | exact .inl rfl | exact .inr rfl | assumption):PG X (.Name x pos) (dH i):=by
 intro pins s σ H v u Q I r h
 exact wpAny_assign_Name (w5 I hN hi hx r (fun s' I'=>⟨_,H,I',h⟩) hf)
def Zu:Va:=fun vs σ H Q=>vs=[]∧Q σ H
def Nq (t:TG) (u:Va):Va:=fun vs σ H Q=>∃ v r,vs=v::r∧t v σ H fun σ' H'=>u r σ' H' Q
theorem p8:vX X [] Zu:=by
 intro pins s σ H vs us Q I r h
 obtain⟨e,h⟩:=h
 subst e
 cases r
 exact assignInOrder_nil ⟨σ,H,I,h⟩
theorem yT {e:Expr}{es:List Expr}{t:TG}{u:Va} (h1:PG X e t) (h2:vX X es u)
   (hs:(assignEach (e::es) X.env).map (·.2)=assign e X.env::(assignEach es X.env).map (·.2):=by rfl):vX X (e::es) (Nq t u):=by
 intro pins s σ H vs us Q I r h
 obtain⟨v,vr,e1,h⟩:=h
 subst e1
 cases r with
 | cons r rr =>
   rw [hs]
   refine assignInOrder_cons (dm (h1 pins s σ H _ _ _ I r h) fun _ s1 zq=>?_)
   obtain⟨σ1,H1,I1,q1⟩:=zq
   exact h2 pins s1 σ1 H1 _ _ Q I1 rr q1
def Zv (K:PySem.W.Frag) (n:Nat) (t:Va):TG:=fun v σ H Q=>∃ a xs,v=.ref a∧ik K H a xs∧xs.length=n∧t xs σ H Q
theorem uA {es:List Expr}{k:Nat}{t:Va}{n:Nat} (hc:X.calm=true) (h:vX X es t)
   (hn:(assignEach es X.env).length=n:=by rfl) (hst:(assignEach es X.env).findIdx? (·.1)=none:=by rfl):PG X (.Tuple es k pos) (Zv X.K n t):=by
 intro pins s σ H v u Q I r hw
 obtain⟨a,xs,e1,hq,hl,hw⟩:=hw
 subst e1
 cases r
 obtain⟨its,rv,ht,hz⟩:=I.tuple hq
 refine assign_Tuple_tuple (I.ok.hd hc) ht (by simp [hn,← hl,rv.length]) hst fun h' hx=>?_
 have I1:Inv X pins σ H { s with heap:=h' }:=I.kept (t':=s.toks) fun b o e=>hx b o (Nat.ne_of_lt (Heap.lt_size e)) e
 exact h pins _ σ H xs _ Q I1 (by simpa using rv) hw
def Lp (te:TE) (g:TG):TS:=fun D σ H=>te σ H fun x H1=>g x σ H1 D.nx
theorem Ig {tg e:Expr}{te:TE}{g:TG} (he:PE X e te) (hg:PG X tg g) (hs:swapsWithSole [tg] e pos.line X.env=pure false:=by rfl) (hw:swappedStores [tg] e X.env=pure none:=by rfl)
   (h1:(assignEach [tg] X.env).map (·.2)=[assign tg X.env]:=by rfl):PS X (.Assign [tg] e pos) (Lp te g):=by
 intro pins s σ H D I h
 refine wpAny_Assign_stores (dm (he pins s σ H _ I h) fun v s1 ⟨x,H1,I1,r1,q1⟩=>?_) hs hw
 rw [h1]
 exact dm (hg pins s1 σ H1 x v _ I1 r1 q1) fun _ s2 q=>q
theorem zX {i:Nat}{x:Str}{e:Expr}{te:TE}{pos':Pos} (hN:X.N.Nodup) (hi:X.N[i]? = some x) (hx:Loc X.env.scope x) (he:PE X e te) (hs:swapsWith e (some (.Name x pos')) pos.line X.env=pure false:=by rfl) (hf:X.fn x=true∨X.env.scope.names.lookup x=some .local:=by first | exact .inl rfl | exact .inr rfl | assumption) :
   PS X (.Assign [.Name x pos'] e pos) (Lp te (dH i)):=by
 intro pins s σ H D I h
 refine wpAny_Assign_Name (dm (he pins s σ H _ I h) fun v s1 ⟨y,H1,I1,r1,q1⟩=>?_) hs
 exact w5 I1 hN hi hx r1 (fun s2 I2=>⟨_,H1,I2,q1⟩) hf
end
section
variable {X:Cx}{pos:Pos}
def Nr (c:TT) (tb:TS):TS:=fun D σ H=>∃ W:Nat→St→Hp→Prop,(∃ m,W m σ H)∧∀ m σ H,W m σ H →
 c σ H fun b H1=>if b=true then ∃ N:St→Hp→Prop,(∀ σ' H',N σ' H'→∃ m',m'<m∧W m' σ' H')∧tb { D with nx:=N,ct:=N,bk:=D.nx } σ H1 else D.nx σ H1
theorem Nt {c:Expr}{body:List Stmt}{tc:TT}{tb:TS} (hp:PassesOwn (model X.prog X.w) X.A X.env X.xe) (hc:PT X c tc) (hb:nU X body tb):PS X (.While c body [] pos) (Nr tc tb):=by
 intro pins s σ H D I h
 obtain⟨W,⟨m0,w0⟩,turn⟩:=h
 refine wpAny_While (codeAny_whileLoop (fun n s'=>∃ σ' H',Inv X pins σ' H' s'∧W n σ' H') ?_ m0 ⟨σ,H,I,w0⟩)
 rintro n s1 ⟨σ1,H1,I1,w1⟩
 refine wpAny_passesOwn hp (dm (hc pins s1 σ1 H1 _ I1 (turn n σ1 H1 w1)) fun b s2 zq=>?_)
 obtain⟨H2,I2,q2⟩:=zq
 cases b with
 | true =>
   obtain⟨N,hN,q2⟩:=q2
   rw [if_pos rfl]
   refine wpAny_passesOwn hp (dm (hb pins s2 σ1 H2 _ I2 q2) fun f s3 q3=>?_)
   cases f with
   | next =>
     obtain⟨σ3,H3,I3,n3⟩:=q3
     obtain⟨m',hm,w3⟩:=hN σ3 H3 n3
     exact⟨m',hm,σ3,H3,I3,w3⟩
   | cont =>
     obtain⟨σ3,H3,I3,n3⟩:=q3
     obtain⟨m',hm,w3⟩:=hN σ3 H3 n3
     exact⟨m',hm,σ3,H3,I3,w3⟩
   | brk=>exact q3
   | ret v=>exact q3
 | false =>
   rw [if_neg Bool.false_ne_true]
   exact wpAny_execs_nil ⟨σ1,H2,I2,q2⟩
end
structure It where
 go:Nat→Hp→Prop
 Ih:Nat→Hp→V→Hp→Prop
 stop:Nat→Hp→Prop
def m8 (X:Cx) (pins:List (Addr × Obj)) (H:Hp) (b:Addr):Prop :=
 H b=none∧b≠X.env.locals∧b∉X.fs∧(b∈X.ex∨X.s₀.heap.objs.size≤b)∧(∀ x c,X.env.cells.lookup x=some c→c≠b)∧∀ p∈X.pn++pins,p.1≠b
theorem Inv.Ii {X:Cx}{pins:List (Addr × Obj)}{σ:St}{H H':Hp}{s:Shared}{b:Addr} (I:Inv X pins σ H s) (hb:s.heap.objs.size≤b) (hn:H' b=none):m8 X pins H' b:=by
 refine⟨hn,Nat.ne_of_gt (Nat.lt_of_lt_of_le I.lt hb),I.U6 hb,.inr (Nat.le_trans I.sz hb),fun x c e z=>?_,fun p hp z=>?_⟩
 · obtain⟨v,q⟩:=I.cell x c e
   exact absurd (Nat.lt_of_lt_of_le q.lt (by rw [z];exact hb)) (Nat.lt_irrefl _)
 · exact absurd (Nat.lt_of_lt_of_le (Heap.lt_size (I.pin p hp).1) (by rw [z];exact hb)) (Nat.lt_irrefl _)
structure Turn (P:Program) (w:World) (K:PySem.W.Frag) (tg:Expr) (J:It) (fp:List Addr) (it:Addr) (tn:Nat→Heap→Prop):Prop where
 mem:it∈fp
 obj:∀ i h,tn i h→∀ b∈fp,∃ o,h.get? b=some o∧∀ v,o.data≠.cell v
 keep:∀ i h h',tn i h→(∀ b∈fp,∀ o,h.get? b=some o→h'.get? b=some o)→tn i h'
 item:∀ (X:Cx),X.prog=P→X.w=w→X.K=K→X.calm=true→∀ (i:Nat) (pins:List (Addr × Obj)) (s:Shared) (σ:St) (H:Hp) (E:Value→Shared→Prop),Inv X pins σ H s→(∀ b∈fp,m8 X pins H b)→tn i s.heap→J.go i H →
   wpAny (model P w) X.A (pyNext (.ref it)) (fun r s1=>∃ u,r=some u ∧
     wpAny (model P w) X.A (letOwnedTupleGo tg (.ref it) u) (fun _ s2=>∃ x H',Inv X pins σ H' s2∧RelV x u∧J.Ih i H x H'∧tn (i+1) s2.heap∧∀ b∈fp,H' b=none) E s1) E s
 done:∀ (X:Cx),X.prog=P→X.w=w→X.K=K→X.calm=true→∀ (i:Nat) (pins:List (Addr × Obj)) (s:Shared) (σ:St) (H:Hp) (E:Value→Shared→Prop),Inv X pins σ H s→(∀ b∈fp,m8 X pins H b)→tn i s.heap→J.stop i H →
   wpAny (model P w) X.A (pyNext (.ref it)) (fun r s1=>r=none∧Inv X pins σ H s1) E s
 self:∀ (A:Around) (i:Nat) (s:Shared) (Q:Value→Shared→Prop) (E:Value→Shared→Prop),tn i s.heap→Q (.ref it) s→wpAny (model P w) A (pyIter (.ref it)) Q E s
abbrev TI:=St→Hp→(It→Hp→Prop)→Prop
def PIE (X:Cx) (pins:List (Addr × Obj)) (σ:St) (tg:Expr) (R:It→Hp→Prop) (itv:Value) (s2:Shared):Prop :=
 ∃ (it:Addr) (fp:List Addr) (tn:Nat→Heap→Prop) (J:It) (H':Hp),itv=.ref it∧Inv X pins σ H' s2∧Turn X.prog X.w X.K tg J fp it tn∧tn 0 s2.heap∧(∀ b∈fp,m8 X pins H' b)∧R J H'
def PI (X:Cx) (tg iter:Expr) (wi:TI):Prop :=
 ∀ (pins:List (Addr × Obj)) (s:Shared) (σ:St) (H:Hp) (R:It→Hp→Prop),Inv X pins σ H s→wi σ H R →
   wpAny (model X.prog X.w) X.A (eval iter X.env) (fun v s1=>wpAny (model X.prog X.w) X.A (pyIter v) (PIE X pins σ tg R) X.xe s1) X.xe s
theorem Nu {M:Model}{A:Around}{E:Value→Shared→Prop}{s:Shared}{tg:Expr}{it:Addr}{u:Value}{o:Obj}{n:String}{vs:Array Value}{Q:Unit→Shared→Prop} (ho:s.heap.get? it=some o) (hc:o.cls=.type n) (hd:o.data=.fields vs)
   (hn:["enumerate","zip","dict_itemiterator","dict_reverseitemiterator","odict_iterator","itertools.zip_longest","itertools.pairwise"].contains n=false) (hQ:Q () s):wpAny M A (letOwnedTupleGo tg (.ref it) u) Q E s:=by
 unfold letOwnedTupleGo
 cases tg <;> first
   | exact wpAny_pure hQ
   | (cases u <;> first
       | exact wpAny_pure hQ
       | (refine wpAny_bind (wpAny_load ho ?_)
          rw [hc,hd]
          show wpAny M A (if (["enumerate","zip","dict_itemiterator","dict_reverseitemiterator","odict_iterator","itertools.zip_longest","itertools.pairwise"].contains n && vs[0]? == some (rawInt _))=true then _ else _) Q E s
          rw [if_neg (by intro h;rw [hn,Bool.false_and] at h;cases h)]
          exact wpAny_pure hQ))
def Nv (K:PySem.W.Frag) (a:Addr):It :=
 ⟨fun i H=>∃ xs x,b7 K H a xs∧xs[i]? = some x,fun i H x H'=>H'=H∧∀ xs,b7 K H a xs→xs[i]? = some x,fun i H=>∃ xs,b7 K H a xs∧xs.length≤i⟩
def Itt (K:PySem.W.Frag) (a:Addr):It :=
 ⟨fun i H=>∃ xs x,ik K H a xs∧xs[i]? = some x,fun i H x H'=>H'=H∧∀ xs,ik K H a xs→xs[i]? = some x,fun i H=>∃ xs,ik K H a xs∧xs.length≤i⟩
def Nx (lo:Int) (n:Nat):It:=⟨fun i _=>i<n,fun i H x H'=>H'=H∧x=.int (lo+i),fun i _=>n≤i⟩
theorem Lq {P:Program}{w:World}{K:PySem.W.Frag}{tg:Expr} (a it:Addr):Turn P w K tg (Nv K a) [it] it (fun i h=>h.IsListIter it a i) where
 mem:=by simp
 obj:=fun i h st b hb=>by
   have e:b=it:=by simpa using hb
   subst e
   obtain⟨o,e,c,d⟩:=st
   exact⟨o,e,fun v z=>by rw [d] at z;cases z⟩
 keep:=fun i h h' st k=>st.at fun o e=>k it (by simp) o e
 item:=by
   intro X hP hw hK hc i pins s σ H E I hf st hg
   subst hP hw hK
   obtain⟨xs,x,hq,hx⟩:=hg
   obtain⟨its,rv,p,hz⟩:=I.list hq
   obtain⟨u,hu,ru⟩:=rv.get hx
   obtain⟨f0,f1,f2,f3,f4,f5⟩:=hf it (by simp)
   refine wpAny_pyNext_list_item st p.isList (x:=u) (by simpa using hu) fun h' st' sb=>?_
   have I1:Inv X pins σ H { s with heap:=h' }:=I.turned (t':=s.toks) (fun b o hb e=>(sb.2 b hb).trans e) f0 f1 f3 f4 f5
   obtain⟨o,e,c,d⟩:=id st'
   exact⟨u,rfl,Nu (s:={ s with heap:=h' }) e c d (by decide) ⟨x,H,I1,ru,⟨rfl,fun ys hy=>by rw [I.Np hy hq];exact hx⟩,st',fun b hb=>(hf b hb).1⟩⟩
 done:=by
   intro X hP hw hK hc i pins s σ H E I hf st hg
   subst hP hw hK
   obtain⟨xs,hq,hx⟩:=hg
   obtain⟨its,rv,p,hz⟩:=I.list hq
   obtain⟨f0,f1,f2,f3,f4,f5⟩:=hf it (by simp)
   have hl:=rv.length
   exact wpAny_pyNext_list_end (I.ok.hd hc) st p.isList (by simp;omega) fun h' eb=>⟨rfl,I.turned (t':=s.toks) (fun b o hb e=>eb b o hb e) f0 f1 f3 f4 f5⟩
 self:=fun _ _ _ _ _ st h=>wpAny_pyIter_listiter st h
theorem Ij {P:Program}{w:World}{K:PySem.W.Frag}{tg:Expr} (a it:Addr):Turn P w K tg (Itt K a) [it] it (fun i h=>h.IsTupleIter it a i) where
 mem:=by simp
 obj:=fun i h st b hb=>by
   have e:b=it:=by simpa using hb
   subst e
   obtain⟨o,e,c,d⟩:=st
   exact⟨o,e,fun v z=>by rw [d] at z;cases z⟩
 keep:=fun i h h' st k=>st.at fun o e=>k it (by simp) o e
 item:=by
   intro X hP hw hK hc i pins s σ H E I hf st hg
   subst hP hw hK
   obtain⟨xs,x,hq,hx⟩:=hg
   obtain⟨its,rv,p,hz⟩:=I.tuple hq
   obtain⟨u,hu,ru⟩:=rv.get hx
   obtain⟨f0,f1,f2,f3,f4,f5⟩:=hf it (by simp)
   refine wpAny_pyNext_tuple_item st (show s.heap.IsTuple a its.toArray from p) (x:=u) (by simpa using hu) fun h' st' sb=>?_
   have I1:Inv X pins σ H { s with heap:=h' }:=I.turned (t':=s.toks) (fun b o hb e=>(sb.2 b hb).trans e) f0 f1 f3 f4 f5
   obtain⟨o,e,c,d⟩:=id st'
   exact⟨u,rfl,Nu (s:={ s with heap:=h' }) e c d (by decide) ⟨x,H,I1,ru,⟨rfl,fun ys hy=>by rw [I.Ln hy hq];exact hx⟩,st',fun b hb=>(hf b hb).1⟩⟩
 done:=by
   intro X hP hw hK hc i pins s σ H E I hf st hg
   subst hP hw hK
   obtain⟨xs,hq,hx⟩:=hg
   obtain⟨its,rv,p,hz⟩:=I.tuple hq
   obtain⟨f0,f1,f2,f3,f4,f5⟩:=hf it (by simp)
   have hl:=rv.length
   exact wpAny_pyNext_tuple_end (I.ok.hd hc) st (show s.heap.IsTuple a its.toArray from p) (by simp;omega) fun h' eb=>⟨rfl,I.turned (t':=s.toks) (fun b o hb e=>eb b o hb e) f0 f1 f3 f4 f5⟩
 self:=fun _ _ _ _ _ st h=>wpAny_pyIter_tupleiter st h
theorem Ik {P:Program}{w:World}{K:PySem.W.Frag}{tg:Expr} (it:Addr) (lo:Int) (n:Nat):Turn P w K tg (Nx lo n) [it] it (fun i h=>IsRangeIter h it (lo+(i:Nat)*1) ((n:Int) - (i:Nat)) 1) where
 mem:=by simp
 obj:=fun i h st b hb=>by
   have e:b=it:=by simpa using hb
   subst e
   exact⟨_,st,fun v z=>by
     have z':Data.fields _=Data.cell v:=z
     cases z'⟩
 keep:=fun i h h' st k=>k it (by simp) _ st
 item:=by
   intro X hP hw hK hc i pins s σ H E I hf st hg
   subst hP hw hK
   obtain⟨f0,f1,f2,f3,f4,f5⟩:=hf it (by simp)
   have W:=Walks.range (prog:=X.prog) (w:=X.w) (I.ok.hd hc) it lo 1 n
   refine W.item i s _ _ hg st fun v h' tk hv st' kk=>?_
   obtain⟨t,rfl⟩:=hv
   have I1:Inv X pins σ H { s with heap:=h',toks:=tk }:=I.turned (fun b o hb e=>kk b o (by simpa using hb) e) f0 f1 f3 f4 f5
   refine⟨_,rfl,Nu (s:={ s with heap:=h',toks:=tk }) (n:="range_iterator") st' rfl rfl (by decide) ⟨.int (lo+i),H,I1,⟨t,?_⟩,⟨rfl,rfl⟩,st',fun b hb=>(hf b hb).1⟩⟩
   rw [Int.mul_one]
 done:=by
   intro X hP hw hK hc i pins s σ H E I hf st hg
   subst hP hw hK
   obtain⟨f0,f1,f2,f3,f4,f5⟩:=hf it (by simp)
   exact wpAny_pyNext_range_end (I.ok.hd hc) st (by have:n≤i:=hg;omega) fun h' eb=>⟨rfl,I.turned (t':=s.toks) (fun b o hb e=>eb b o hb e) f0 f1 f3 f4 f5⟩
 self:=fun _ _ _ _ _ st h=>wpAny_pyIter_rangeiter st h
end L2
namespace L2
open PySem PySem.Spec PyProof.Rows
section
variable {X:Cx}{tg:Expr}
def Zw (K:PySem.W.Frag) (tl:TE):TI:=fun σ H R=>tl σ H fun x H1=>∃ a,x=.ref a∧(∃ xs,b7 K H1 a xs)∧R (Nv K a) H1
def ajH (K:PySem.W.Frag) (tl:TE):TI:=fun σ H R=>tl σ H fun x H1=>∃ a,x=.ref a∧(∃ xs,ik K H1 a xs)∧R (Itt K a) H1
theorem xA {l:Expr}{tl:TE} (hl:PE X l tl):PI X tg l (Zw X.K tl):=by
 intro pins s σ H R I h
 refine dm (hl pins s σ H _ I h) fun v s1 zq=>?_
 obtain⟨x,H1,I1,r1,q1⟩:=zq
 obtain⟨a,e,⟨xs,hq⟩,q⟩:=q1
 subst e
 cases r1
 obtain⟨its,rv,p,hz⟩:=I1.list hq
 refine wpAny_pyIter_list p.isList ?_
 refine⟨s1.heap.objs.size,[s1.heap.objs.size],_,_,H1,rfl,I1.kept (t':=s1.toks) fun b o e=>Heap.get?_push_of_some _ e,Lq a _,⟨_,Heap.get?_push_size _ rfl,rfl,rfl⟩,fun b hb=>?_,q⟩
 have e:b=s1.heap.objs.size:=by simpa using hb
 subst e
 exact I1.Ii (Nat.le_refl _) (I1.hok.fresh (Nat.le_refl _))
theorem Vb {l:Expr}{tl:TE} (hl:PE X l tl):PI X tg l (ajH X.K tl):=by
 intro pins s σ H R I h
 refine dm (hl pins s σ H _ I h) fun v s1 zq=>?_
 obtain⟨x,H1,I1,r1,q1⟩:=zq
 obtain⟨a,e,⟨xs,hq⟩,q⟩:=q1
 subst e
 cases r1
 obtain⟨its,rv,p,hz⟩:=I1.tuple hq
 refine wpAny_pyIter_tuple (show s1.heap.IsTuple a its.toArray from p) ?_
 refine⟨s1.heap.objs.size,[s1.heap.objs.size],_,_,H1,rfl,I1.kept (t':=s1.toks) fun b o e=>Heap.get?_push_of_some _ e,Ij a _,⟨_,Heap.get?_push_size _ rfl,rfl,rfl⟩,fun b hb=>?_,q⟩
 have e:b=s1.heap.objs.size:=by simpa using hb
 subst e
 exact I1.Ii (Nat.le_refl _) (I1.hok.fresh (Nat.le_refl _))
theorem Ny {pins:List (Addr × Obj)}{σ:St}{H:Hp}{s:Shared}{R:It→Hp→Prop}{E:Value→Shared→Prop}{lo hi:Int}{t u v:Tok}{tk:Nat} (I:Inv X pins σ H s) (h1:-(2 ^ 62)≤lo) (h2:lo<2 ^ 62) (h3:-(2 ^ 62)≤hi) (h4:hi<2 ^ 62)
   (q:R (Nx lo (hi - lo).toNat) H):wpAny (model X.prog X.w) X.A (pyIter (.ref s.heap.objs.size)) (PIE X pins σ tg R) E { s with heap:=s.heap.push { cls:=.type "range",data:=.fields #[.int lo t,.int hi u,.int 1 v] },toks:=tk }:=by
 refine wpAny_pyIter_range (IsRange.new ..) (small_one h1 h2 h3 h4) ?_
 have I1:Inv X pins σ H { s with heap:=s.heap.push { cls:=.type "range",data:=.fields #[.int lo t,.int hi u,.int 1 v] },toks:=tk }:=I.kept fun b o e=>Heap.get?_push_of_some _ e
 refine⟨(s.heap.push { cls:=.type "range",data:=.fields #[.int lo t,.int hi u,.int 1 v] }).objs.size,[(s.heap.push { cls:=.type "range",data:=.fields #[.int lo t,.int hi u,.int 1 v] }).objs.size],_,_,H,rfl,
   I1.kept (t':=tk) fun b o e=>Heap.get?_push_of_some _ e,Ik _ lo (hi - lo).toNat,?_,fun b hb=>?_,q⟩
 · have e1:lo+((0:Nat):Int)*1=lo:=by simp
   have e2:(((hi - lo).toNat:Nat):Int) - ((0:Nat):Int)=Builtin.Range.rangeSize lo hi 1:=by rw [rangeSize_one];split <;> omega
   show IsRangeIter _ _ (lo+((0:Nat):Int)*1) ((((hi - lo).toNat:Nat):Int) - ((0:Nat):Int)) 1
   rw [e1,e2]
   exact Heap.get?_push_size _ rfl
 · have e:b=(s.heap.push { cls:=.type "range",data:=.fields #[.int lo t,.int hi u,.int 1 v] }).objs.size:=by simpa using hb
   subst e
   exact I1.Ii (Nat.le_refl _) (I1.hok.fresh (Nat.le_refl _))
def Zx (ta:TA):TI:=fun σ H R=>ta σ H fun vs H1=>∃ j:Int,vs=[.int j]∧-(2 ^ 62)≤j∧j<2 ^ 62∧R (Nx 0 j.toNat) H1
theorem qb {a:Expr}{ta:TA}{p pos:Pos} (hg:Gl X "range") (hm:X.mg "range" = none) (ha:PA X [a] ta) (hs:starEach [a] X.env=[(false,eval a X.env)]:=by rfl):PI X tg (.Call (.Name "range" p) [a] [] pos) (Zx ta):=by
 intro pins s σ H R I h
 refine Call_ (CP I hg hm boot_range (PyProof.Rows.callWith_type1 (dm (ha pos pins s σ H _ I h) fun us s1 ⟨vs,H1,I1,r1,q1⟩=>?_) hs rfl))
 obtain⟨j,e,q1,q2,q⟩:=q1
 subst e
 cases r1 with
 | cons r rr =>
   cases rr
   obtain⟨t,rfl⟩:=r
   exact call_range_1 (Ny I1 (by omega) (by omega) q1 q2 (by simpa using q))
def ajI (wi:TI) (g:TG) (tb:TS):TS:=fun D σ H=>wi σ H fun J H1=>∃ W:Nat→Nat→St→Hp→Prop,(∃ m,W 0 m σ H1)∧∀ i m σ H,W i m σ H →
 (J.stop i H∧D.nx σ H)∨(J.go i H∧∃ N:St→Hp→Prop,(∀ σ' H',N σ' H'→∃ m',m'<m∧W (i+1) m' σ' H')∧∀ x H',J.Ih i H x H'→g x σ H' fun σ2 H2=>tb { D with nx:=N,ct:=N,bk:=D.nx } σ2 H2)
def qT (fp:List Addr) (h:Heap):List (Addr × Obj):=fp.filterMap fun b=>(h.get? b).map fun o=>(b,o)
theorem xE {fp:List Addr}{h:Heap}{b:Addr}{o:Obj} (hb:b∈fp) (e:h.get? b=some o):(b,o)∈qT fp h:=List.mem_filterMap.mpr ⟨b,hb,by rw [e];rfl⟩
theorem Lr {fp:List Addr}{h:Heap}{p:Addr × Obj} (hp:p∈qT fp h):p.1∈fp∧h.get? p.1=some p.2:=by
 obtain⟨b,hb,e⟩:=List.mem_filterMap.mp hp
 cases q:h.get? b with
 | none=>rw [q] at e;cases e
 | some o =>
   rw [q] at e
   have e':(b,o)=p:=Option.some.inj e
   subst e'
   exact⟨hb,q⟩
theorem Inv.pinned {pins:List (Addr × Obj)}{σ:St}{H:Hp}{s:Shared}{fp:List Addr} (I:Inv X pins σ H s) (hf:∀ b∈fp,m8 X pins H b) (ho:∀ b∈fp,∃ o,s.heap.get? b=some o∧∀ v,o.data≠.cell v):Inv X (pins++qT fp s.heap) σ H s :=
 I.jE fun p hp=>(List.mem_append.mp hp).elim (fun z=>I.pin p (List.mem_append_right _ z)) fun z=>by
   obtain⟨hb,e⟩:=Lr z
   obtain⟨f0,f1,f2,_⟩:=hf p.1 hb
   obtain⟨o,e',d⟩:=ho p.1 hb
   rw [e] at e';cases e'
   exact⟨e,f0,f1,f2,d⟩
theorem Inv.w6 {pins pl:List (Addr × Obj)}{σ:St}{H:Hp}{s:Shared} (I:Inv X (pins++pl) σ H s):Inv X pins σ H s:=I.jE fun p hp=>I.pin p (List.mem_append_right _ (List.mem_append_left _ hp))
theorem Vc {iter:Expr}{body:List Stmt}{wi:TI}{g:TG}{tb:TS}{pos:Pos} (hp:PassesOwn (model X.prog X.w) X.A X.env X.xe) (hc:X.calm=true) (hi:PI X tg iter wi) (hg:PG X tg g) (hb:nU X body tb)
   (hs:∀ x,foldedSetIterable iter X.env x=pure x:=by intro _;rfl):PS X (.For tg iter body [] pos) (ajI wi g tb):=by
 intro pins s σ H D I h
 refine wpAny_For (dm (hi pins s σ H _ I h) fun v s1 h1=>dm h1 fun itv s2 h2=>?_) hs
 obtain⟨it,fp,tn,J,H2,e,I2,T,st2,f2,W,⟨m0,w0⟩,turn⟩:=h2
 subst e
 have stat:∀ {H':Hp},(∀ b∈fp,H' b=none)→∀ b∈fp,m8 X pins H' b:=fun hn b hb=>⟨hn b hb,(f2 b hb).2⟩
 refine codeAny_forLoop_any (fun n s'=>∃ i σ' H',Inv X pins σ' H' s'∧tn i s'.heap∧(∀ b∈fp,H' b=none)∧W i n σ' H') ?_ m0 ⟨0,σ,H2,I2,st2,fun b hb=>(f2 b hb).1,w0⟩
 rintro n s3 ⟨i,σ3,H3,I3,st3,fr3,w3⟩
 rcases turn i n σ3 H3 w3 with ⟨stop,qn⟩ | ⟨go,N,hN,step⟩
 · refine wpAny_passesOwn hp (dm (T.done X rfl rfl rfl hc i pins s3 σ3 H3 X.xe I3 (stat fr3) st3 stop) fun r s4 zq=>?_)
   obtain⟨hr,I4⟩:=zq
   subst hr
   exact wpAny_execs_nil ⟨σ3,H3,I4,qn⟩
 · refine wpAny_passesOwn hp (dm (T.item X rfl rfl rfl hc i pins s3 σ3 H3 X.xe I3 (stat fr3) st3 go) fun r s4 zq=>?_)
   obtain⟨u,hr,h4⟩:=zq
   subst hr
   refine wpAny_passesOwn hp (dm h4 fun _ s5 zq=>?_)
   obtain⟨x,H5,I5,r5,y5,Ls,Zy⟩:=zq
   have Zz:=I5.pinned (stat Zy) (T.obj _ _ Ls)
   refine wpAny_passesOwn hp (dm (hg _ s5 σ3 H5 x u _ Zz r5 (step x H5 y5)) fun _ s6 zq=>?_)
   obtain⟨σ6,H6,I6,q6⟩:=zq
   refine wpAny_passesOwn hp (dm (hb _ s6 σ6 H6 _ I6 q6) fun f s7 q7=>?_)
   have again:∀ {σ7:St}{H7:Hp},Inv X (pins++qT fp s5.heap) σ7 H7 s7→N σ7 H7→∃ m,m<n∧∃ i σ' H',Inv X pins σ' H' s7∧tn i s7.heap∧(∀ b∈fp,H' b=none)∧W i m σ' H':=fun {σ7 H7} I7 n7=>by
     obtain⟨m',hm,w7⟩:=hN σ7 H7 n7
     refine⟨m',hm,i+1,σ7,H7,I7.w6,T.keep _ _ _ Ls fun b hb o e=>(I7.pin (b,o) (List.mem_append_right _ (List.mem_append_right _ (xE hb e)))).1,fun b hb=>?_,w7⟩
     obtain⟨o,e,d⟩:=T.obj _ _ Ls b hb
     exact (I7.pin (b,o) (List.mem_append_right _ (List.mem_append_right _ (xE hb e)))).2.1
   cases f with
   | next=>obtain⟨σ7,H7,I7,n7⟩:=q7;exact again I7 n7
   | cont=>obtain⟨σ7,H7,I7,n7⟩:=q7;exact again I7 n7
   | brk=>obtain⟨σ7,H7,I7,q7⟩:=q7;exact⟨σ7,H7,I7.w6,q7⟩
   | ret v=>obtain⟨x7,σ7,H7,I7,r7,q7⟩:=q7;exact⟨x7,σ7,H7,I7.w6,r7,q7⟩
end
theorem Nz {K:PySem.W.Frag}{a:Addr}{xs:List V}{g:TG}{tb:TS}{D:Ends}{σ:St}{H:Hp} (Pv:Nat→St→Hp→Prop) (h0:Pv 0 σ H) (hl:∀ i σ H,i≤xs.length→Pv i σ H→b7 K H a xs)
   (hs:∀ i x σ H,xs[i]? = some x→Pv i σ H→g x σ H fun σ2 H2=>tb { D with nx:=Pv (i+1),ct:=Pv (i+1),bk:=D.nx } σ2 H2) (hd:∀ σ H,Pv xs.length σ H→D.nx σ H) :
   ∃ W:Nat→Nat→St→Hp→Prop,(∃ m,W 0 m σ H)∧∀ i m σ H,W i m σ H →
     ((Nv K a).stop i H∧D.nx σ H)∨((Nv K a).go i H∧∃ N:St→Hp→Prop,(∀ σ' H',N σ' H'→∃ m',m'<m∧W (i+1) m' σ' H')∧∀ x H',(Nv K a).Ih i H x H'→g x σ H' fun σ2 H2=>tb { D with nx:=N,ct:=N,bk:=D.nx } σ2 H2):=by
 refine⟨fun i m σ H=>m=xs.length - i∧i≤xs.length∧Pv i σ H,⟨xs.length,by simp,Nat.zero_le _,h0⟩,?_⟩
 rintro i m σ H ⟨rfl,hi,p⟩
 have q:=hl i σ H hi p
 by_cases hlt:i<xs.length
 · refine .inr ⟨⟨xs,xs[i],q,by simp [hlt]⟩,Pv (i+1),fun σ' H' p'=>⟨xs.length - (i+1),by omega,rfl,hlt,p'⟩,fun x H' y=>?_⟩
   obtain⟨e,y⟩:=y
   subst e
   exact hs i x σ _ (y xs q) p
 · have e:i=xs.length:=by omega
   subst e
   exact .inl ⟨⟨xs,q,Nat.le_refl _⟩,hd σ H p⟩
theorem Lw {lo:Int}{n:Nat}{g:TG}{tb:TS}{D:Ends}{σ:St}{H:Hp} (Pv:Nat→St→Hp→Prop) (h0:Pv 0 σ H)
   (hs:∀ i σ H,i<n→Pv i σ H→g (.int (lo+i)) σ H fun σ2 H2=>tb { D with nx:=Pv (i+1),ct:=Pv (i+1),bk:=D.nx } σ2 H2) (hd:∀ σ H,Pv n σ H→D.nx σ H) :
   ∃ W:Nat→Nat→St→Hp→Prop,(∃ m,W 0 m σ H)∧∀ i m σ H,W i m σ H →
     ((Nx lo n).stop i H∧D.nx σ H)∨((Nx lo n).go i H∧∃ N:St→Hp→Prop,(∀ σ' H',N σ' H'→∃ m',m'<m∧W (i+1) m' σ' H')∧∀ x H',(Nx lo n).Ih i H x H'→g x σ H' fun σ2 H2=>tb { D with nx:=N,ct:=N,bk:=D.nx } σ2 H2):=by
 refine⟨fun i m σ H=>m=n - i∧i≤n∧Pv i σ H,⟨n,by simp,Nat.zero_le _,h0⟩,?_⟩
 rintro i m σ H ⟨rfl,hi,p⟩
 by_cases hlt:i<n
 · refine .inr ⟨hlt,Pv (i+1),fun σ' H' p'=>⟨n - (i+1),by omega,rfl,hlt,p'⟩,fun x H' y=>?_⟩
   obtain⟨e,y⟩:=y
   subst e y
   exact hs i σ _ hlt p
 · have e:i=n:=by omega
   subst e
   exact .inl ⟨Nat.le_refl _,hd σ H p⟩
end L2
namespace L2
open PySem PySem.Spec PyProof.Rows
abbrev R2:=V→V→Hp→VK→Prop
def jb (X:Cx) (f:Value→Value→Sem Value) (r:R2):Prop :=
 ∀ (pins:List (Addr × Obj)) (s:Shared) (σ:St) (H:Hp) (x y:V) (v u:Value) (Q:VK),Inv X pins σ H s→RelV x v→RelV y u→r x y H Q →
   wpAny (model X.prog X.w) X.A (f v u) (EP X pins σ Q) X.xe s
def An (X:Cx) (f:Value→Sem Value) (r:V→Hp→VK→Prop):Prop :=
 ∀ (pins:List (Addr × Obj)) (s:Shared) (σ:St) (H:Hp) (x:V) (v:Value) (Q:VK),Inv X pins σ H s→RelV x v→r x H Q →
   wpAny (model X.prog X.w) X.A (f v) (EP X pins σ Q) X.xe s
def cL (X:Cx) (f:Value) (r:List V→Hp→VK→Prop):Prop :=
 ∀ (pins:List (Addr × Obj)) (s:Shared) (σ:St) (H:Hp) (xs:List V) (us:List Value) (Q:VK),Inv X pins σ H s→Vals xs us→r xs H Q →
   wpAny (model X.prog X.w) X.A (call f us) (EP X pins σ Q) X.xe s
def lC (X:Cx) (r:V→Hp→(Bool→Hp→Prop)→Prop):Prop :=
 ∀ (pins:List (Addr × Obj)) (s:Shared) (σ:St) (H:Hp) (x:V) (v:Value) (Q:Bool→Hp→Prop),Inv X pins σ H s→RelV x v→r x H Q →
   wpAny (model X.prog X.w) X.A (truthy v) (TP X pins σ Q) X.xe s
def Il (r:R2) (ta tb:TE):TE:=fun σ H Q=>ta σ H fun x H1=>tb σ H1 fun y H2=>r x y H2 Q
def rI (C:Int→Int→Prop) (g:Int→Int→V):R2:=fun x y H Q=>∃ i j,x=.int i∧y=.int j∧C i j∧Q (g i j) H
def M9 (g:Int→Int→V):R2:=fun x y H Q=>∃ i j,x=.int i∧y=.int j∧Q (g i j) H
section
variable {X:Cx}{a b c:Expr}{ta tb tc:TE}{pos:Pos}
theorem Vd (ha:PE X a ta) (hb:PE X b tb) {pins:List (Addr × Obj)}{s:Shared}{σ:St}{H:Hp}{R:V→V→Hp→Prop} (I:Inv X pins σ H s)
   (h:ta σ H fun x H1=>tb σ H1 fun y H2=>R x y H2) {Q:Value→Shared→Prop}{f:Value→Value→Sem Value}
   (hf:∀ v u s2 x y H2,Inv X pins σ H2 s2→RelV x v→RelV y u→R x y H2→wpAny (model X.prog X.w) X.A (f v u) Q X.xe s2) :
   wpAny (model X.prog X.w) X.A (eval a X.env) (fun v s₁=>wpAny (model X.prog X.w) X.A (eval b X.env) (fun u s₂=>wpAny (model X.prog X.w) X.A (f v u) Q X.xe s₂) X.xe s₁) X.xe s:=by
 refine dm (ha pins s σ H _ I h) fun v s1 zq=>?_
 obtain⟨x,H1,I1,r1,q1⟩:=zq
 refine dm (hb pins s1 σ H1 _ I1 q1) fun u s2 zq=>?_
 obtain⟨y,H2,I2,r2,q2⟩:=zq
 exact hf v u s2 x y H2 I2 r1 r2 q2
theorem zV {op:Operator}{r:R2} (ho:jb X (binaryOp op) r) (ha:PE X a ta) (hb:PE X b tb):PE X (.BinOp a op b pos) (Il r ta tb):=by
 intro pins s σ H Q I h
 exact wpAny_BinOp (Vd ha hb I h fun v u s2 x y H2 I2 rx ry q=>ho pins s2 σ H2 x y v u Q I2 rx ry q)
theorem opI {f:Value→Value→Sem Value}{C:Int→Int→Prop}{g:Int→Int→Int}
   (rule:∀ (i j:Int) (t u:Tok) (s:Shared) (Q:Value→Shared→Prop) (E:Value→Shared→Prop),C i j→Q (.int (g i j) s.toks) { s with toks:=s.toks+1 }→wpAny (model X.prog X.w) X.A (f (.int i t) (.int j u)) Q E s) :
   jb X f (rI C fun i j=>.int (g i j)):=by
 intro pins s σ H x y v u Q I rx ry h
 obtain⟨i,j,rfl,rfl,hc,q⟩:=h
 obtain⟨t,rfl⟩:=rx
 obtain⟨t',rfl⟩:=ry
 exact rule i j t t' s _ _ hc ⟨.int (g i j),H,I.tok _,⟨_,rfl⟩,q⟩
theorem ZC {f:Value→Value→Sem Value}{g:Int→Int→Int}
   (rule:∀ (i j:Int) (t u:Tok) (s:Shared) (Q:Value→Shared→Prop) (E:Value→Shared→Prop),Q (.int (g i j) s.toks) { s with toks:=s.toks+1 }→wpAny (model X.prog X.w) X.A (f (.int i t) (.int j u)) Q E s) :
   jb X f (M9 fun i j=>.int (g i j)):=by
 intro pins s σ H x y v u Q I rx ry h
 obtain⟨i,j,rfl,rfl,q⟩:=h
 obtain⟨t,rfl⟩:=rx
 obtain⟨t',rfl⟩:=ry
 exact rule i j t t' s _ _ ⟨.int (g i j),H,I.tok _,⟨_,rfl⟩,q⟩
theorem Rm {f:Value→Value→Sem Value}{g:Int→Int→Bool}
   (rule:∀ (i j:Int) (t u:Tok) (s:Shared) (Q:Value→Shared→Prop) (E:Value→Shared→Prop),Q (.bool (g i j)) s→wpAny (model X.prog X.w) X.A (f (.int i t) (.int j u)) Q E s) :
   jb X f (M9 fun i j=>.bl (g i j)):=by
 intro pins s σ H x y v u Q I rx ry h
 obtain⟨i,j,rfl,rfl,q⟩:=h
 obtain⟨t,rfl⟩:=rx
 obtain⟨t',rfl⟩:=ry
 exact rule i j t t' s _ _ ⟨.bl (g i j),H,I,rfl,q⟩
def ajJ (i j:Int):Prop:=0<j∧j<1073741824
def ajK (i j:Int):Prop:=0≤j∧j≤1000000∧i.natAbs<2 ^ 64
def ZD (i j:Int):Prop:=(-(2 ^ 64)<i∧i<2 ^ 64)∨(-(2 ^ 64)<j∧j<2 ^ 64)
theorem ZD.ok {i j:Int} (h:ZD i j):IntMulOk i j:=by
 rcases h with ⟨h1,h2⟩ | ⟨h1,h2⟩
 · exact .of_left (intBits_le_64 h1 h2)
 · exact .of_right (intBits_le_64 h1 h2)
theorem mz:jb X (binaryOp .Add) (M9 fun i j=>.int (i+j)):=ZC fun _ _ _ _ _ _ _ q=>add_int q
theorem uB:jb X (binaryOp .Sub) (M9 fun i j=>.int (i - j)):=ZC fun _ _ _ _ _ _ _ q=>sub_int q
theorem xO:jb X (binaryOp .FloorDiv) (rI ajJ fun i j=>.int (i / j)):=opI fun i j _ _ _ _ _ hc q=>by
 have h1:(0:Int)<j:=hc.1
 have h2:j<1073741824:=hc.2
 exact floordiv_int (by omega) (by rw [Int.fdiv_eq_ediv_of_nonneg i (by omega)];exact q) (.inl (PyProof.noPylong_small (by omega)))
theorem xD:jb X (binaryOp .Mod) (rI (fun _ j=>0<j) fun i j=>.int (i % j)):=opI fun i j _ _ _ _ _ hc q=>by
 have h1:(0:Int)<j:=hc
 exact mod_int' (by omega) (by rw [Int.fmod_eq_emod_of_nonneg i (by omega)];exact q)
theorem CT:jb X (binaryOp .Pow) (rI ajK fun i j=>.int (i ^ j.toNat)):=opI fun _ _ _ _ _ _ _ hc q=>pow_int_small hc.1 hc.2.1 hc.2.2 q
end
def ZF:V→V→Bool
 | .non,.non=>true | .non,.int _=>true | .int _,.non=>true | .non,.bl _=>true | .bl _,.non=>true | .non,.str _=>true | .str _,.non=>true
 | .int _,.int _=>true | .bl _,.bl _=>true | .str _,.str _=>true | .HX _,.HX _=>true
 | .int _,.str _=>true | .str _,.int _=>true | .bl _,.str _=>true | .str _,.bl _=>true
 | _,_=>false
def Ve:R2:=fun x y H Q=>ZF x y=true∧Q (.bl (decide (x=y))) H
def rNe:R2:=fun x y H Q=>ZF x y=true∧Q (.bl (!decide (x=y))) H
theorem wN {i j:Int}:decide (V.int i=V.int j)=(i == j):=by
 rw [Bool.eq_iff_iff]
 simp
theorem NB {i j:Bool}:decide (V.bl i=V.bl j)=(i == j):=by
 rw [Bool.eq_iff_iff]
 simp
theorem Ks {i j:Str}:decide (V.str i=V.str j)=(i == j):=by
 rw [Bool.eq_iff_iff]
 simp
theorem Ku {i j:Array UInt8}:decide (V.HX i=V.HX j)=(i.toList == j.toList):=by
 rw [Bool.eq_iff_iff]
 cases i
 cases j
 simp
section
variable {X:Cx}{a b c:Expr}{ta tb tc:TE}{pos:Pos}
theorem yI {pins:List (Addr × Obj)}{σ:St}{H:Hp}{s:Shared}{Q:VK}{k k':Bool} (I:Inv X pins σ H s) (q:Q (.bl k) H) (e:k=k'):EP X pins σ Q (.bool k') s:=by
 subst e
 exact⟨.bl k,H,I,rfl,q⟩
theorem yY:jb X (compareOp .Eq) Ve:=by
 intro pins s σ H x y v u Q I rx ry h
 obtain⟨hs,q⟩:=h
 cases x with
 | non =>
   cases rx
   cases y with
   | non=>cases ry;exact PySem.EqNone.eq_none_none (yI I q (by simp))
   | bl j=>cases ry;exact PySem.EqNone.eq_none_bool (yI I q (by simp))
   | int j=>obtain⟨t',rfl⟩:=ry;exact PySem.EqNone.eq_none_int (yI I q (by simp))
   | str j=>obtain⟨t',rfl⟩:=ry;exact PySem.EqNone.eq_none_str (yI I q (by simp))
   | _=>exact absurd (show false=true from hs) Bool.false_ne_true
 | bl i =>
   cases rx
   cases y with
   | non=>cases ry;exact PySem.EqNone.eq_bool_none (yI I q (by simp))
   | bl j=>cases ry;exact eq_bool (yI I q NB)
   | str j=>obtain⟨t',rfl⟩:=ry;exact PySem.EqMixed.eq_bool_str (yI I q (by simp))
   | _=>exact absurd (show false=true from hs) Bool.false_ne_true
 | int i =>
   obtain⟨t,rfl⟩:=rx
   cases y with
   | non=>cases ry;exact PySem.EqNone.eq_int_none (yI I q (by simp))
   | int j=>obtain⟨t',rfl⟩:=ry;exact eq_int (yI I q wN)
   | str j=>obtain⟨t',rfl⟩:=ry;exact PySem.EqMixed.eq_int_str (yI I q (by simp))
   | _=>exact absurd (show false=true from hs) Bool.false_ne_true
 | str i =>
   obtain⟨t,rfl⟩:=rx
   cases y with
   | non=>cases ry;exact PySem.EqNone.eq_str_none (yI I q (by simp))
   | bl j=>cases ry;exact PySem.EqMixed.eq_str_bool (yI I q (by simp))
   | int j=>obtain⟨t',rfl⟩:=ry;exact PySem.EqMixed.eq_str_int (yI I q (by simp))
   | str j=>obtain⟨t',rfl⟩:=ry;exact eq_str (yI I q Ks)
   | _=>exact absurd (show false=true from hs) Bool.false_ne_true
 | HX i =>
   obtain⟨t,rfl⟩:=rx
   cases y with
   | HX j=>obtain⟨t',rfl⟩:=ry;exact PySem.W.eq_bytes (yI I q Ku)
   | _=>exact absurd (show false=true from hs) Bool.false_ne_true
 | _=>cases y <;> exact absurd (show false=true from hs) Bool.false_ne_true
theorem NK:jb X (compareOp .NotEq) rNe:=by
 intro pins s σ H x y v u Q I rx ry h
 obtain⟨hs,q⟩:=h
 cases x with
 | non =>
   cases rx
   cases y with
   | non=>cases ry;exact PySem.EqNone.ne_none_none (yI I q (by simp))
   | bl j=>cases ry;exact PySem.EqNone.ne_none_bool (yI I q (by simp))
   | int j=>obtain⟨t',rfl⟩:=ry;exact PySem.EqNone.ne_none_int (yI I q (by simp))
   | str j=>obtain⟨t',rfl⟩:=ry;exact PySem.EqNone.ne_none_str (yI I q (by simp))
   | _=>exact absurd (show false=true from hs) Bool.false_ne_true
 | bl i =>
   cases rx
   cases y with
   | non=>cases ry;exact PySem.EqNone.ne_bool_none (yI I q (by simp))
   | bl j=>cases ry;exact ne_bool (yI I q (congrArg not NB))
   | str j=>obtain⟨t',rfl⟩:=ry;exact PySem.EqMixed.ne_bool_str (yI I q (by simp))
   | _=>exact absurd (show false=true from hs) Bool.false_ne_true
 | int i =>
   obtain⟨t,rfl⟩:=rx
   cases y with
   | non=>cases ry;exact PySem.EqNone.ne_int_none (yI I q (by simp))
   | int j=>obtain⟨t',rfl⟩:=ry;exact ne_int (yI I q (congrArg not wN))
   | str j=>obtain⟨t',rfl⟩:=ry;exact PySem.EqMixed.ne_int_str (yI I q (by simp))
   | _=>exact absurd (show false=true from hs) Bool.false_ne_true
 | str i =>
   obtain⟨t,rfl⟩:=rx
   cases y with
   | non=>cases ry;exact PySem.EqNone.ne_str_none (yI I q (by simp))
   | bl j=>cases ry;exact PySem.EqMixed.ne_str_bool (yI I q (by simp))
   | int j=>obtain⟨t',rfl⟩:=ry;exact PySem.EqMixed.ne_str_int (yI I q (by simp))
   | str j=>obtain⟨t',rfl⟩:=ry;exact ne_str (yI I q (congrArg not Ks))
   | _=>exact absurd (show false=true from hs) Bool.false_ne_true
 | HX i =>
   obtain⟨t,rfl⟩:=rx
   cases y with
   | HX j=>obtain⟨t',rfl⟩:=ry;exact PySem.W.ne_bytes (yI I q (congrArg not Ku))
   | _=>exact absurd (show false=true from hs) Bool.false_ne_true
 | _=>cases y <;> exact absurd (show false=true from hs) Bool.false_ne_true
theorem sE:jb X (compareOp .Lt) (M9 fun i j=>.bl (decide (i<j))):=Rm fun _ _ _ _ _ _ _ q=>lt_int q
theorem ZG:jb X (compareOp .LtE) (M9 fun i j=>.bl (decide (i≤j))):=Rm fun _ _ _ _ _ _ _ q=>le_int q
theorem Fb:jb X (compareOp .Gt) (M9 fun i j=>.bl (decide (j<i))):=Rm fun _ _ _ _ _ _ _ q=>gt_int q
theorem ZJ:jb X (compareOp .GtE) (M9 fun i j=>.bl (decide (j≤i))):=Rm fun _ _ _ _ _ _ _ q=>ge_int q
theorem xG:jb X (compareOp .Is) (fun x y H Q=>y=.non∧Q (.bl (decide (x=.non))) H):=by
 intro pins s σ H x y v u Q I rx ry h
 obtain⟨rfl,q⟩:=h
 cases ry
 refine is_none_gen (yI I q ?_)
 cases x <;> first
   | (cases rx;rfl)
   | (obtain⟨t,rfl⟩:=rx;rfl)
theorem Kv:jb X (compareOp .IsNot) (fun x y H Q=>y=.non∧Q (.bl (!decide (x=.non))) H):=by
 intro pins s σ H x y v u Q I rx ry h
 obtain⟨rfl,q⟩:=h
 cases ry
 refine isnot_none_gen (yI I q ?_)
 cases x <;> first
   | (cases rx;rfl)
   | (obtain⟨t,rfl⟩:=rx;rfl)
theorem jb.or {f:Value→Value→Sem Value}{r r':R2} (h:jb X f r) (h':jb X f r'):jb X f (fun x y H Q=>r x y H Q∨r' x y H Q):=by
 intro pins s σ H x y v u Q I rx ry q
 rcases q with q | q
 · exact h pins s σ H x y v u Q I rx ry q
 · exact h' pins s σ H x y v u Q I rx ry q
theorem zQ (b:Expr) {op:CmpOp} (h:op≠.In:=by decide) (h2:op≠.NotIn:=by decide):behindInMarks op b=false:=by
 have e1:(op == CmpOp.In)=false:=by cases op <;> first | rfl | exact absurd rfl h
 have e2:(op == CmpOp.NotIn)=false:=by cases op <;> first | rfl | exact absurd rfl h2
 cases b <;> simp [behindInMarks,e1,e2]
theorem xJ {op:CmpOp}{r:R2} (ho:jb X (compareOp op) r) (ha:PE X a ta) (hb:PE X b tb) (hm:behindInMarks op b=false):PE X (.Compare a [op] [b] pos) (Il r ta tb):=by
 intro pins s σ H Q I h
 exact wpAny_Compare1 (Vd ha hb I h fun v u s2 x y H2 I2 rx ry q=>ho pins s2 σ H2 x y v u Q I2 rx ry q) hm
def nW (t:TE):TT:=fun σ H Q=>t σ H fun x H'=>∃ k,x=.bl k∧Q k H'
theorem zO {op:CmpOp}{r:R2} (ho:jb X (compareOp op) r) (ha:PE X a ta) (hb:PE X b tb) (hm:behindInMarks op b=false):PT X (.Compare a [op] [b] pos) (nW (Il r ta tb)):=by
 intro pins s σ H Q I h
 refine wpAny_isTrue_Compare1 (dm (ha pins s σ H _ I h) fun v s1 ⟨x,H1,I1,r1,q1⟩=>dm (hb pins s1 σ H1 _ I1 q1) fun u s2 ⟨y,H2,I2,r2,q2⟩ =>
   dm (ho pins s2 σ H2 x y v u _ I2 r1 r2 q2) fun c s3 ⟨z,H3,I3,r3,k,e,q3⟩=>?_) hm
 subst e
 cases r3
 exact wpAny_truthy_bool ⟨H3,I3,q3⟩
def Vf (r r':R2) (ta tb tc:TE):TE:=fun σ H Q=>ta σ H fun x H1=>tb σ H1 fun y H2=>r x y H2 fun z H3=>∃ k,z=.bl k ∧
 (if k=true then tc σ H3 fun w' H4=>r' y w' H4 Q else Q (.bl false) H3)
theorem NP {op op':CmpOp}{r r':R2} (ho:jb X (compareOp op) r) (ho':jb X (compareOp op') r') (ha:PE X a ta) (hb:PE X b tb) (hc:PE X c tc)
   (hm:lastMarks [op,op'] [b,c]=false:=by with_unfolding_all rfl):PE X (.Compare a [op,op'] [b,c] pos) (Vf r r' ta tb tc):=by
 intro pins s σ H Q I h
 refine Compare_chain (dm (ha pins s σ H _ I h) fun v s1 ⟨x,H1,I1,r1,q1⟩=>chain_link (dm (hb pins s1 σ H1 _ I1 q1) fun u s2 ⟨y,H2,I2,r2,q2⟩ =>
   dm (ho pins s2 σ H2 x y v u _ I2 r1 r2 q2) fun d s3 ⟨z,H3,I3,r3,k,e,q3⟩=>?_)) hm
 subst e
 cases r3
 refine wpAny_truthy_bool ?_
 cases k with
 | false=>exact ite_ff ⟨.bl false,H3,I3,rfl,q3⟩
 | true=>exact ite_tt (chain_last (dm (hc pins s3 σ H3 _ I3 q3) fun w' s4 ⟨z',H4,I4,r4,q4⟩=>ho' pins s4 σ H4 y z' u w' Q I4 r2 r4 q4))
def ZK (K:PySem.W.Frag) (x:V) (H:Hp) (k:Bool):Prop :=
 match x with
 | .non=>k=false
 | .bl b=>k=b
 | .int i=>k=(i != 0)
 | .str y=>y.length≤sizeLine∧k=((y.length:Int) != 0)
 | .HX y=>y.size≤sizeLine∧k=((y.size:Int) != 0)
 | .ref p=>(∃ xs,b7 K H p xs∧k=!xs.isEmpty)∨(∃ xs,ik K H p xs∧k=!xs.isEmpty)∨∃ kvs,H p=some (.dK kvs)∧k=!kvs.isEmpty
 | _=>False
theorem Im {κ:Type}{kvs:List (κ × V)}{vs:List (κ × Value)} (r:KV kvs vs):(!vs.isEmpty)=!kvs.isEmpty:=by
 cases r <;> rfl
theorem xf {xs:List V}{its:List Value} (r:Vals xs its):(!its.toArray.isEmpty)=!xs.isEmpty:=by
 cases r <;> simp
theorem uC:(sizeLine:Nat)<2 ^ 63:=by rw [sizeLine_eq];decide
theorem Vg:lC X (fun x H Q=>∃ k,ZK X.K x H k∧Q k H):=by
 intro pins s σ H x v Q I rx h
 obtain⟨k,e,q⟩:=h
 have hl:=uC
 have hs:sizeLine=16777216:=sizeLine_eq
 cases x with
 | non =>
   cases rx
   have e':k=false:=e
   subst e'
   exact truthy_none ⟨H,I,q⟩
 | bl b =>
   cases rx
   have e':k=b:=e
   subst e'
   exact wpAny_truthy_bool ⟨H,I,q⟩
 | int i =>
   obtain⟨t,rfl⟩:=rx
   have e':k=(i != 0):=e
   subst e'
   exact PySem.P.truthy_int ⟨H,I,q⟩
 | str y =>
   obtain⟨t,rfl⟩:=rx
   obtain⟨hy,e'⟩:y.length≤sizeLine∧k=((y.length:Int) != 0):=e
   subst e'
   exact PySem.P.truthy_str (by omega) ⟨H,I.tok _,q⟩
 | HX y =>
   obtain⟨t,rfl⟩:=rx
   obtain⟨hy,e'⟩:y.size≤sizeLine∧k=((y.size:Int) != 0):=e
   subst e'
   exact PySem.W.truthy_bytes (by omega) ⟨H,I.tok _,q⟩
 | ref p =>
   cases rx
   have e':(∃ xs,b7 X.K H p xs∧k=!xs.isEmpty)∨(∃ xs,ik X.K H p xs∧k=!xs.isEmpty)∨∃ kvs,H p=some (.dK kvs)∧k=!kvs.isEmpty:=e
   rcases e' with ⟨xs,hx,e'⟩ | ⟨xs,hx,e'⟩ | ⟨kvs,hx,e'⟩
   · subst e'
     obtain⟨its,r,pl,hz⟩:=I.list hx
     have hlen:=r.length
     exact wpAny_truthy_list pl.isList (by simp only [List.size_toArray];omega) ⟨H,I.tok _,by rw [xf r];exact q⟩
   · subst e'
     obtain⟨its,r,pl,hz⟩:=I.tuple hx
     have hlen:=r.length
     exact truthy_tuple pl (by simp only [List.size_toArray];omega) ⟨H,I.tok _,by rw [xf r];exact q⟩
   · subst e'
     obtain⟨hz,hS,vs,r,m⟩:kvs.length≤sizeLine∧(p == sysModules)=false∧∃ vs,KV kvs vs∧s.heap.DictOf (cO X.prog X.w) p vs:=I.hok p _ hx
     have hlen:kvs.length=vs.length:=Paired.length r
     exact wpAny_truthy_dict hS m (by omega) ⟨H,I.tok _,by rw [Im r];exact q⟩
 | _=>exact (show False from e).elim
theorem NQ (ha:PE X a ta) (he:∀ whole,isTrue a X.env whole=(do let v ← whole;standAt a.pos;holding [v] (truthy v))) :
   PT X a (fun σ H Q=>ta σ H fun x H'=>∃ k,ZK X.K x H' k∧Q k H'):=by
 intro pins s σ H Q I h
 exact isTrue_plain (dm (ha pins s σ H _ I h) fun v s1 ⟨x,H1,I1,r1,q1⟩=>Vg pins s1 σ H1 x v Q I1 r1 q1) (he _)
theorem qU:jb X (binaryOp .Add) (fun x y H Q=>∃ i j,x=.str i∧y=.str j∧i.length+j.length≤sizeLine∧Q (.str (i++j)) H):=by
 intro pins s σ H x y v u Q I rx ry h
 obtain⟨i,j,rfl,rfl,hz,q⟩:=h
 obtain⟨t,rfl⟩:=rx
 obtain⟨t',rfl⟩:=ry
 exact add_str (fun t' tk=>⟨.str (i++j),H,I.tok _,⟨_,rfl⟩,q⟩) hz
theorem vals1 {x:V}{us:List Value} (r:Vals [x] us):∃ u,us=[u]∧RelV x u:=by
 cases r with
 | cons r1 r2=>cases r2;exact⟨_,rfl,r1⟩
theorem vals2 {x y:V}{us:List Value} (r:Vals [x,y] us):∃ u w',us=[u,w']∧RelV x u∧RelV y w':=by
 cases r with
 | cons r1 r2 =>
   cases r2 with
   | cons r3 r4=>cases r4;exact⟨_,_,rfl,r1,r3⟩
theorem Lx:cL X (.type "int") (fun xs H Q=>(∃ i,xs=[.int i]∧Q (.int i) H)∨∃ k,xs=[.bl k]∧Q (.int (if k then 1 else 0)) H):=by
 intro pins s σ H xs us Q I r h
 rcases h with ⟨i,rfl,q⟩ | ⟨k,rfl,q⟩
 · obtain⟨u,rfl,t,rfl⟩:=vals1 r
   exact call_int_int ⟨.int i,H,I,⟨_,rfl⟩,q⟩
 · obtain⟨u,rfl,r1⟩:=vals1 r
   cases r1
   exact call_int_bool ⟨.int (if k then 1 else 0),H,I.tok _,⟨_,rfl⟩,q⟩
end
end L2
namespace L2
open PySem PySem.Spec PyProof.Rows
structure Io (h:Heap) (x dx C:Addr) (mA:Str→Option Value):Prop where
 obj:h.get? x=some (PySem.W.instObj C dx)
 ns:h.Ns1 dx mA
 ne:dx≠x
theorem Ly {h:Heap}{dx:Addr}{mA:Str→Option Value} (n:h.Ns1 dx mA):∃ od,h.get? dx=some od∧∀ name,PySem.W.lookIn name od=some (mA name):=by
 obtain⟨o,es,ep,ho,hd,hk,_,hm⟩:=n
 refine⟨o,ho,fun name=>?_⟩
 have e:=hm name
 unfold nsFind findBy at e
 rw [← Array.find?_toList] at e
 unfold PySem.W.lookIn
 rw [hd]
 dsimp only
 split
 · rename_i y q
   rw [q] at e
   exact congrArg some e
 · rename_i q
   rw [q] at e
   have a:es.toList.any (·.refKey)=false:=by
     rw [List.any_eq_false]
     intro y hy
     obtain⟨z,t,hkey⟩:=hk y (Array.mem_toList_iff.mp hy)
     simp [DictEntry.refKey,hkey]
   have a':¬ es.toList.any (·.refKey)=true:=by rw [a];exact Bool.false_ne_true
   rw [if_neg a']
   exact congrArg some e
theorem Io.look {h:Heap}{x dx C:Addr}{mA:Str→Option Value} (I:Io h x dx C mA):∃ od,PySem.W.InstAt h x (PySem.W.instObj C dx) C (some od)∧∀ name,PySem.W.lookIn name od=some (mA name) :=
 let ⟨od,ho,hl⟩:=Ly I.ns
 ⟨od,⟨I.obj,rfl,rfl,ho⟩,hl⟩
section
variable {prog:Program}{w:World}{A:Around}{E:Value→Shared→Prop}{s:Shared}{K:PySem.W.Frag}{x dx C f:Addr}{mA:Str→Option Value}{name:Str}{v:Value}
theorem get_map {expr:Bool}{Q:Value→Shared→Prop} (X:K.In s.heap) (I:Io s.heap x dx C mA) (hg:PySem.W.plainGet K C name=true) (hh:PySem.W.hasDictIn K C=true)
   (ha:PySem.W.findIn K (.ref C) name=some none) (hv:mA name=some v) (hv':PySem.W.handedIn v=true) (h:Q v { s with toks:=s.toks+1 }) :
   wpAny (model prog w) A (getAttr (.ref x) name expr) Q E s:=by
 obtain⟨od,J,hl⟩:=I.look
 exact PySem.W.get_value X J (PySem.W.plainGet_of hg).1 (PySem.W.findObj_own hh ha rfl (by rw [hl,hv])) hv' h
theorem NT {pl:Sem Bool}{Q:Value × List Value→Shared→Prop} (X:K.In s.heap) (I:Io s.heap x dx C mA) (hg:PySem.W.plainGet K C name=true)
   (hf:PySem.W.findIn K (.ref C) name=some (some (.ref f))) (ht:PySem.W.isFn K (.ref f)=true) (hv:mA name=none) (h:Q (.ref f,[.ref x]) s) :
   wpAny (model prog w) A (getMethod (.ref x) name pl) Q E s:=by
 obtain⟨od,J,hl⟩:=I.look
 exact PySem.W.method_fn X J (PySem.W.plainGet_of hg).1 (PySem.W.plainGet_of hg).2 hf (beq_iff_eq.mp ht) (by show (PySem.W.lookIn name od).map (·.isSome)=some false;rw [hl,hv];rfl) h
theorem Rn {ns:List Str}{Q:Unit→Shared→Prop} (X:K.In s.heap) (I:Io s.heap x dx C mA)
   (hs:PySem.W.findIn K (.ref C) "__setattr__" = some (some (.builtin "object.__setattr__"))) (hp:PySem.W.plainOver K C=true) (ht:PySem.W.takerIn K C name=some none) (hh:PySem.W.hasDictIn K C=true)
   (hw:PySem.Within mA ns) (hsz:ns.length≤sizeLine)
   (h:∀ h',Io h' x dx C (fun y=>if y=name then some v else mA y)→Heap.SameBut dx s.heap h'→Q () { s with heap:=h',toks:=s.toks+2 }) :
   wpAny (model prog w) A (setAttr (.ref x) name v) Q E s:=by
 obtain⟨od,J,hl⟩:=I.look
 refine PySem.W.set_plain X J hs (PySem.W.osa_open (s:={ s with toks:=s.toks+1 }) (r:=none) X J hp ht fun b=>?_)
 obtain⟨cd,hc,hd'⟩:=PySem.W.any_some hh
 have hx:s.heap.get? x=some ⟨.ref C,some dx,.plain,#[]⟩:=I.obj
 refine wpAny_bind (wpAny_pure (wpAny_bind (wpAny_bind (wpAny_loadPart hx (wpAny_bind (PySem.W.Looks.here (s:={ s with toks:=s.toks+1 }) (PySem.W.looks_clsIn X hc) ?_))))))
 rw [hd']
 refine wpAny_pure (a:=some dx) (wpAny_bind (wpAny_pure (wpAny_bind ?_)))
 refine wpAny_nsSet1 (s:={ s with toks:=s.toks+1 }) I.ns fun h' hn2 hs2=>?_
 obtain⟨oD,esD,epD,hoD,hdD,hcD⟩:=hn2.count (PySem.Within.cons name v hw)
 refine wpAny_bind (wpAny_lookBehind hoD (by rw [hdD];exact pastItsLine_dict (Nat.le_trans hcD (by rw [List.length_cons];omega))) ?_)
 exact wpAny_pure (h _ ⟨(hs2.2 _ (Ne.symm I.ne)).trans I.obj,hn2,I.ne⟩ hs2)
theorem NZ {R:Result→Shared→Prop}{vs:List Value}{kw:List (Str × Value)} (X:K.In s.heap) (hm:PySem.W.makesIn K C=true)
   (hi:PySem.W.findIn K (.ref C) "__init__" = some (some (.ref f))) (hf:PySem.W.typeIn K (.ref f)=some (.type "function"))
   (h:codeAny (model prog w) (A.under (.builtin "type.__call__" ⟨.ref C::vs,kw⟩)) (.call (.ref f) ⟨.ref (s.heap.objs.size+1)::vs,kw⟩) (PySem.W.InitBack (s.heap.objs.size+1) R)
     { s with heap:=(s.heap.push PySem.W.emptyDict).push (PySem.W.instObj C s.heap.objs.size) }) :
   codeAny (model prog w) A (.call (.ref C) ⟨vs,kw⟩) R s:=by
 obtain⟨hh,g,d,t,os⟩:=s
 exact PySem.W.make_core (PySem.W.makes_of X hm) (PySem.W.looks_findIn X hi) (fun self=>PySem.W.bind_fn X self hf) (.inl rfl) h
end
def m9 (f:Str) (v:V):List (Str × V)→List (Str × V)
 | []=>[(f,v)]
 | (g,x)::r=>if g=f then (g,v)::r else (g,x)::m9 f v r
theorem vB (f g:Str) (v:V):∀ fs:List (Str × V),(m9 f v fs).lookup g=if g=f then some v else fs.lookup g
 | []=>by
   show List.lookup g [(f,v)]=_
   by_cases h:g=f
   · have hb:(g == f)=true:=beq_iff_eq.mpr h
     simp only [List.lookup,hb,if_pos h]
   · have hb:(g == f)=false:=beq_eq_false_iff_ne.mpr h
     simp only [List.lookup,hb,if_neg h]
 | (k,x)::r=>by
   have ih:=vB f g v r
   rw [show m9 f v ((k,x)::r)=(if k=f then (k,v)::r else (k,x)::m9 f v r) from rfl]
   by_cases hk:k=f
   · rw [if_pos hk]
     by_cases h:g=k
     · have hb:(g == k)=true:=beq_iff_eq.mpr h
       simp only [List.lookup,hb,if_pos (h.trans hk)]
     · have hb:(g == k)=false:=beq_eq_false_iff_ne.mpr h
       simp only [List.lookup,hb,if_neg (fun e:g=f=>h (e.trans hk.symm))]
   · rw [if_neg hk]
     by_cases h:g=k
     · have hb:(g == k)=true:=beq_iff_eq.mpr h
       simp only [List.lookup,hb,if_neg (fun e:g=f=>hk (h.symm.trans e))]
     · have hb:(g == k)=false:=beq_eq_false_iff_ne.mpr h
       simp only [List.lookup,hb]
       exact ih
theorem uD (f:Str) (v:V):∀ fs:List (Str × V),f∈(m9 f v fs).map (·.1)∧∀ g,g∈fs.map (·.1)→g∈(m9 f v fs).map (·.1)
 | []=>⟨by simp [m9],fun g h=>by simp at h⟩
 | (k,x)::r=>by
   obtain⟨i1,i2⟩:=uD f v r
   rw [show m9 f v ((k,x)::r)=(if k=f then (k,v)::r else (k,x)::m9 f v r) from rfl]
   by_cases hk:k=f
   · rw [if_pos hk]
     subst hk
     exact⟨by simp,fun g h=>by simpa using h⟩
   · rw [if_neg hk]
     refine⟨?_,fun g h=>?_⟩
     · rw [List.map_cons]
       exact List.mem_cons_of_mem _ i1
     · rw [List.map_cons] at h ⊢
       rcases List.mem_cons.mp h with e | e
       · exact List.mem_cons.mpr (.inl e)
       · exact List.mem_cons_of_mem _ (i2 g e)
theorem vC (f:Str) (v:V):∀ fs:List (Str × V),(m9 f v fs).length≤fs.length+1
 | []=>by simp [m9]
 | (k,x)::r=>by
   have ih:=vC f v r
   rw [show m9 f v ((k,x)::r)=(if k=f then (k,v)::r else (k,x)::m9 f v r) from rfl]
   by_cases hk:k=f
   · rw [if_pos hk,List.length_cons,List.length_cons];omega
   · rw [if_neg hk,List.length_cons,List.length_cons];omega
theorem oF.some_of {v:V}{o:Option Value} (r:oF (some v) o):∃ u,o=some u∧RelV v u:=by
 cases o with
 | none=>exact (show False from r).elim
 | some u=>exact⟨u,rfl,r⟩
theorem oF.none_of {o:Option Value} (r:oF none o):o=none:=by
 cases o with
 | none=>rfl
 | some u=>exact (show False from r).elim
theorem Lz {v:V}{u:Value} (r:RelV v u):PySem.W.handedIn u=true:=by
 cases v with
 | non=>cases (show u=Value.none from r);rfl
 | bl b=>cases (show u=Value.bool b from r);rfl
 | int i=>obtain⟨t,e⟩:=(show ∃ t,u=Value.int i t from r);cases e;rfl
 | str x=>obtain⟨t,e⟩:=(show ∃ t,u=Value.str x t from r);cases e;rfl
 | HX b=>obtain⟨t,e⟩:=(show ∃ t,u=Value.bytes b t from r);cases e;rfl
 | flt b=>obtain⟨t,e⟩:=(show ∃ t,u=Value.float b t from r);cases e;rfl
 | ref a=>cases (show u=Value.ref a from r);rfl
 | ty n=>cases (show u=Value.type n from r);rfl
section
variable {P:Program}{w:World}{H H':Hp}{h h':Heap}{a C dx:Addr}{fs fs':List (Str × V)}
theorem wO (hok:pZ P w H h) (e:H a=some (.ins C dx fs)):∃ mA,Io h a dx C mA∧(∀ f,oF (fs.lookup f) (mA f))∧PySem.Within mA (fs.map (·.1))∧fs.length≤1000∧H dx=some (.own a):=by
 obtain⟨d,z,ne,ob,mA,n,r,q⟩:=(show cu P w H h a (.ins C dx fs) from hok a _ e)
 exact⟨mA,⟨ob,n,ne⟩,r,q,z,d⟩
end
structure Ak (K:PySem.W.Frag) (C:Addr):Prop where
 pg:PySem.W.plainGet K C Str.empty=true
 hd:PySem.W.hasDictIn K C=true
 po:PySem.W.plainOver K C=true
 sa:PySem.W.findIn K (.ref C) "__setattr__" = some (some (.builtin "object.__setattr__"))
theorem Ak.get {K:PySem.W.Frag}{C:Addr} (c:Ak K C) (f:Str):PySem.W.plainGet K C f=true:=c.pg
def aX (K:PySem.W.Frag) (C:Addr) (f:Str):Prop:=PySem.W.findIn K (.ref C) f=some none
theorem aX.taker {K:PySem.W.Frag}{C:Addr}{f:Str} (n:aX K C f):PySem.W.takerIn K C f=some none:=by
 unfold PySem.W.takerIn
 rw [show PySem.W.findIn K (.ref C) f=some none from n]
 rfl
structure Con (K:PySem.W.Frag) (C:Addr) (f:Str) (v:V) (u:Value):Prop where
 at_:PySem.W.findIn K (.ref C) f=some (some u)
 rel:RelV v u
 get:PySem.W.specialIn K u "__get__" = some none
 cp:PySem.W.copiedNames.contains f=false
structure Meth (K:PySem.W.Frag) (C:Addr) (m:Str) (f:Addr):Prop where
 at_:PySem.W.findIn K (.ref C) m=some (some (.ref f))
 fn:PySem.W.isFn K (.ref f)=true
 kp:PySem.W.keepIn K (.ref f)=true
section
variable {X:Cx}{pins:List (Addr × Obj)}{σ:St}{H:Hp}{s:Shared}{a C dx:Addr}{fs:List (Str × V)}{f:Str}{v:V}{A:Around}{E:Value→Shared→Prop}
theorem Ip {b:Bool}{Q:Value→Shared→Prop} (I:Inv X pins σ H s) (e:H a=some (.ins C dx fs)) (c:Ak X.K C) (n:aX X.K C f) (l:fs.lookup f=some v)
   (h:∀ u s',Inv X pins σ H s'→RelV v u→Q u s'):wpAny (model X.prog X.w) A (getAttr (.ref a) f b) Q E s:=by
 obtain⟨mA,O,r,_,_,_⟩:=wO I.hok e
 obtain⟨u,hu,ru⟩:=oF.some_of (v:=v) (o:=mA f) (by rw [← l];exact r f)
 exact get_map I.wY O (c.get f) c.hd n hu (Lz ru) (h u _ (I.tok _) ru)
theorem qW {m:Str}{g:Addr}{pl:Sem Bool}{Q:Value × List Value→Shared→Prop} (I:Inv X pins σ H s) (e:H a=some (.ins C dx fs)) (c:Ak X.K C) (k:Meth X.K C m g) (l:fs.lookup m=none)
   (h:Q (.ref g,[.ref a]) s):wpAny (model X.prog X.w) A (getMethod (.ref a) m pl) Q E s:=by
 obtain⟨mA,O,r,_,_,_⟩:=wO I.hok e
 have hn:mA m=none:=oF.none_of (by rw [← l];exact r m)
 exact NT I.wY O (c.get m) k.at_ k.fn hn h
theorem Ir {y:V}{u:Value}{Q:Unit→Shared→Prop} (I:Inv X pins σ H s) (e:H a=some (.ins C dx fs)) (c:Ak X.K C) (n:aX X.K C f) (hl:fs.length<1000) (ry:RelV y u)
   (h:∀ s',Inv X pins σ (upd H a (.ins C dx (m9 f y fs))) s'→Q () s'):wpAny (model X.prog X.w) A (setAttr (.ref a) f u) Q E s:=by
 obtain⟨mA,O,r,wi,_,ho⟩:=wO I.hok e
 have hz:(fs.map (·.1)).length≤sizeLine:=by rw [List.length_map,sizeLine_eq];omega
 refine Rn I.wY O c.sa c.po n.taker c.hd wi hz fun h' O' sb=>h _ ?_
 have hd:∃ o,h'.get? dx=some o:=let ⟨o,_,_,e',_⟩:=O'.ns; ⟨o,e'⟩
 refine I.write (x:=a) (e:=dx) (by rw [e];exact True.intro) (.inr ho) (fun b q hb z=>(sb.2 b hb).trans z) hd ?_
 refine⟨by rw [zI O.ne];exact ho,?_,O.ne,O'.obj,_,O'.ns,fun g=>?_,fun g hg=>?_⟩
 · have:=vC f y fs;omega
 · show oF ((m9 f y fs).lookup g) (if g=f then some u else mA g)
   rw [vB]
   by_cases q:g=f
   · rw [if_pos q,if_pos q];exact ry
   · rw [if_neg q,if_neg q];exact r g
 · by_cases q:g=f
   · rw [q];exact (uD f y fs).1
   · refine (uD f y fs).2 g (wi g fun z=>hg ?_)
     show (if g=f then some u else mA g)=none
     rw [if_neg q];exact z
theorem Inv.made (I:Inv X pins σ H s):Inv X pins σ (upd (upd H s.heap.objs.size (.own (s.heap.objs.size+1))) (s.heap.objs.size+1) (.ins C s.heap.objs.size []))
   { s with heap:=(s.heap.push PySem.W.emptyDict).push (PySem.W.instObj C s.heap.objs.size) }:=by
 have e1:(s.heap.push PySem.W.emptyDict).get? s.heap.objs.size=some PySem.W.emptyDict:=Heap.get?_push_size s.heap rfl
 have e2:((s.heap.push PySem.W.emptyDict).push (PySem.W.instObj C s.heap.objs.size)).get? (s.heap.objs.size+1)=some (PySem.W.instObj C s.heap.objs.size):=by
   have:=Heap.get?_push_size (s.heap.push PySem.W.emptyDict) (o:=PySem.W.instObj C s.heap.objs.size) rfl
   rwa [Heap.size_push] at this
 have e3:(s.heap.push PySem.W.emptyDict).Ns s.heap.objs.size (fun _=>none):=⟨PySem.W.emptyDict,#[],_,e1,rfl,(fun e he=>absurd he (by simp)),fun _=>rfl⟩
 have I1:=I.laid (a:=s.heap.objs.size) (o:=.own (s.heap.objs.size+1)) (h':=s.heap.push PySem.W.emptyDict) (t':=s.toks) (fun b u q=>Heap.get?_push_of_some _ q) (Nat.le_refl _) ⟨_,e1⟩
 refine I1.laid (a:=s.heap.objs.size+1) (o:=.ins C s.heap.objs.size []) (t':=s.toks) (fun b u q=>Heap.get?_push_of_some _ q) (Nat.le_of_eq (Heap.size_push _ _)) ?_
 have ne:s.heap.objs.size≠s.heap.objs.size+1:=Nat.ne_of_lt (Nat.lt_succ_self _)
 refine⟨by rw [zI ne,zB],Nat.zero_le _,ne,e2,fun _=>none,(Heap.Ns1.of_empty e3).at fun o q=>Heap.get?_push_of_some _ q,fun _=>True.intro,fun y hy=>absurd rfl hy⟩
theorem Ro {prog:Program}{w:World}{env:Env}{e:Expr}{f:Str}{pos:Pos}{s:Shared}{Q:Value→Shared→Prop} (hb:attributeBase e f env (eval e env)=eval e env)
   (h:wpAny (model prog w) A (eval e env) (fun o s₁=>wpAny (model prog w) A (getAttr o f true) Q E s₁) E s):wpAny (model prog w) A (eval (.Attribute e f pos) env) Q E s :=
 Attribute_any_ h (by rw [arm_eval_Attribute,hb])
end
def ajL (K:PySem.W.Frag) (ta:TE) (f:Str):TE:=fun σ H Q=>ta σ H fun x H1=>∃ a C dx fs v,x=.ref a∧H1 a=some (.ins C dx fs)∧Ak K C∧aX K C f∧fs.lookup f=some v∧Q v H1
def ajM (K:PySem.W.Frag) (ta tv:TE) (f:Str):TS:=fun D σ H=>tv σ H fun y H1=>ta σ H1 fun x H2=>∃ a C dx fs,x=.ref a∧H2 a=some (.ins C dx fs)∧Ak K C∧aX K C f∧fs.length<1000 ∧
 D.nx σ (upd H2 a (.ins C dx (m9 f y fs)))
section
variable {X:Cx}{o e value:Expr}{f:Str}{pos pos' tpos:Pos}{ta tv:TE}
theorem zK (he:PE X e ta) (hb:attributeBase e f X.env (eval e X.env)=eval e X.env):PE X (.Attribute e f pos) (ajL X.K ta f):=by
 intro pins s σ H Q I h
 refine Ro hb (dm (he pins s σ H _ I h) fun u s1 zq=>?_)
 obtain⟨x,H1,I1,rx,a,C,dx,fs,v,ex,ea,c,n,l,q⟩:=zq
 subst ex
 obtain rfl:u=Value.ref a:=rx
 exact Ip I1 ea c n l fun u' s2 I2 ru=>⟨v,H1,I2,ru,q⟩
theorem yG (ha:PE X o ta) (hv:PE X value tv) (hs:swapsWith value (some (.Attribute o f pos')) pos.line X.env=pure false):PS X (.Assign [.Attribute o f pos'] value pos) (ajM X.K ta tv f):=by
 intro pins s σ H D I h
 refine plainObj_wpAny_Assign_Attribute (dm (hv pins s σ H _ I h) fun u s1 ⟨y,H1,I1,ry,q⟩=>dm (ha pins s1 σ H1 _ I1 q) fun ov s2 ⟨x,H2,I2,rx,a,C,dx,fs,ex,ea,c,n,l,q2⟩=>?_) hs
 subst ex
 obtain rfl:ov=Value.ref a:=rx
 exact Ir I2 ea c n l ry fun s3 I3=>⟨σ,_,I3,q2⟩
end
section
variable {X:Cx}{pins:List (Addr × Obj)}{σ:St}{H:Hp}{s:Shared}{A:Around}{E:Value→Shared→Prop}{Q:Value→Shared→Prop}{c:Value}{b:Bool}
inductive aF (K:PySem.W.Frag) (H:Hp):V→Value→Prop where
 | non:aF K H .non (.type "NoneType")
 | bl (x:Bool):aF K H (.bl x) (.type "bool")
 | int (i:Int):aF K H (.int i) (.type "int")
 | str (x:Str):aF K H (.str x) (.type "str")
 | flt (x:UInt64):aF K H (.flt x) (.type "float")
 | lst {a:Addr}{xs:List V} (e:H a=some (.lst xs)):aF K H (.ref a) (.type "list")
 | qp {a:Addr}{o:Obj}{xs:List V} (e:H a=some (.qp o (.lst xs))):aF K H (.ref a) (.type "list")
 | tup {a:Addr}{xs:List V} (e:H a=some (.tup xs)):aF K H (.ref a) (.type "tuple")
 | dK {a:Addr}{kvs:List (Key × V)} (e:H a=some (.dK kvs)):aF K H (.ref a) (.type "dict")
 | dT {a:Addr}{kvs:List (List Key × V)} (e:H a=some (.dT kvs)):aF K H (.ref a) (.type "dict")
 | ins {a C dx:Addr}{fs:List (Str × V)} (e:H a=some (.ins C dx fs)) (cl:Ak K C) (ha:PySem.W.findIn K (.ref C) "__class__" = some (some (.builtin "object.__class__")))
     (hn:PySem.W.specialIn K (.builtin "object.__class__") "__get__" = some (some (.builtin "getset_descriptor.__get__"))) (htk:PySem.W.takesIn K (.builtin "object.__class__")=some true)
     (hm:PySem.W.mroIn K C (.type "object")=some true):aF K H (.ref a) (.ref C)
end
end L2
namespace L2
open PySem PySem.Spec PyProof.Rows
structure dO (k:Nat) (A:Around):Prop where
 hd:A.handled=none
 dp:A.depth+3*k+5<recursionLimit
 un:A.units+16*k+200<cLine
theorem dO.mono {j k:Nat}{A:Around} (r:dO k A) (h:j≤k):dO j A:=⟨r.hd,by have:=r.dp;omega,by have:=r.un;omega⟩
theorem dO.deeper {k:Nat}{A:Around} (r:dO (k+1) A) (env:Env):dO k (A.deeper env) :=
 ⟨r.hd,by have:=r.dp;show A.depth+1+3*k+5<_;omega,by have:=r.un;show A.units+3+16*k+200<_;omega⟩
theorem dO.in1 {k:Nat}{A:Around} (r:dO (k+1) A):dO k A.in1 :=
 ⟨r.hd,by have:=r.dp;show A.depth+3*k+5<_;omega,by have:=r.un;show A.units+1+16*k+200<_;omega⟩
theorem Iu {A:Around}{C:Addr}{us:List Value}{kw:List (Str × Value)}:(A.under (.builtin "type.__call__" ⟨.ref C::us,kw⟩)).depth=A.depth+1:=by
 first | rfl | simp [Around.under,Code.weight,Code.isCreation,Code.isGuard,Code.isCaller,Code.frames,Code.isFrame,guardIds]
theorem Iv {A:Around}{C:Addr}{us:List Value}{kw:List (Str × Value)}:(A.under (.builtin "type.__call__" ⟨.ref C::us,kw⟩)).units=A.units+1:=by
 first | rfl | simp [Around.under,Code.cUnits,Code.frames,Code.isFrame]
theorem dO.make {k:Nat}{A:Around} (r:dO (k+1) A) (C:Addr) (us:List Value) (kw:List (Str × Value)):dO k (A.under (.builtin "type.__call__" ⟨.ref C::us,kw⟩)) :=
 ⟨r.hd,by have:=r.dp;rw [Iu];omega,by have:=r.un;rw [Iv];omega⟩
theorem dO.depth {k:Nat}{A:Around} (r:dO k A):A.depth<recursionLimit:=by have:=r.dp;omega
theorem dO.units {k:Nat}{A:Around} (r:dO k A):A.units+64<cLine:=by have:=r.un;omega
def LC:TA:=fun _ H Q=>Q [] H
def N5 (ta:TE) (tr:TA):TA:=fun σ H Q=>ta σ H fun x H1=>tr σ H1 fun xs H2=>Q (x::xs) H2
section
variable {X:Cx}{e:Expr}{es:List Expr}{te:TE}{t:TA}{pos:Pos}
theorem zD:PA X [] LC:=fun _ _ _ _ H Q I h=>Calls.spliced_nil ⟨[],H,I,.nil,h⟩
theorem zA (ha:PE X e te) (hr:PA X es t) (hs:starEach (e::es) X.env=(false,eval e X.env)::starEach es X.env:=by rfl):PA X (e::es) (N5 te t):=by
 intro pos pins s σ H Q I h
 rw [hs]
 show wpAny _ _ (spliced ((false,eval e X.env)::backTo pos (starEach es X.env))) _ _ s
 refine Calls.spliced_cons (dm (ha pins s σ H _ I h) fun u s1 zq=>?_)
 obtain⟨x,H1,I1,r1,q1⟩:=zq
 exact dm (hr pos pins s1 σ H1 _ I1 q1) fun us s2 ⟨xs,H2,I2,r2,q2⟩=>⟨x::xs,H2,I2,.cons r1 r2,q2⟩
def ajN (t:TA):TE:=fun σ H Q=>t σ H fun xs H1=>xs.length≤sizeLine∧∀ p,H1 p=none→Q (.ref p) (upd H1 p (.tup xs))
def ajO (t:TA):TE:=fun σ H Q=>t σ H fun xs H1=>xs.length≤sizeLine∧∀ p,H1 p=none→Q (.ref p) (upd H1 p (.lst xs))
theorem yC {x1} (h:PA X es t):PE X (.Tuple es x1 pos) (ajN t):=by
 intro pins s σ H Q I hq
 refine wpAny_Tuple_spliced (dm (h pos pins s σ H _ I hq) fun us s1 ⟨xs,H1,I1,r,z,q⟩=>⟨by rw [← r.length];exact z,?_⟩)
 have hf:H1 s1.heap.objs.size=none:=I1.hok.fresh (Nat.le_refl _)
 refine⟨.ref s1.heap.objs.size,upd H1 s1.heap.objs.size (.tup xs),I1.laid (t':=s1.toks) (fun b u e=>Heap.get?_push_of_some _ e) (Nat.le_refl _) ?_,rfl,q _ hf⟩
 exact⟨z,us,r,⟨_,Heap.get?_push_size _ rfl,rfl,_,rfl⟩⟩
theorem yN (h:PA X es t):PE X (.List es pos) (ajO t):=by
 intro pins s σ H Q I hq
 refine wpAny_List_spliced (dm (h pos pins s σ H _ I hq) fun us s1 ⟨xs,H1,I1,r,z,q⟩=>⟨by rw [← r.length];exact z,?_⟩)
 have hf:H1 s1.heap.objs.size=none:=I1.hok.fresh (Nat.le_refl _)
 refine⟨.ref s1.heap.objs.size,upd H1 s1.heap.objs.size (.lst xs),I1.laid (t':=s1.toks) (fun b u e=>Heap.get?_push_of_some _ e) (Nat.le_refl _) ?_,rfl,q _ hf⟩
 exact⟨z,us,0,r,Heap.get?_push_size _ rfl⟩
end
abbrev Sp:=List V→Hp→VK→XK→Prop
abbrev Al:=List Env→Hp→Shared→XK→Value→Shared→Prop
structure sI (P:Program) (w:World) (K:PySem.W.Frag) (mg:Str→Option Value) (base:Heap) (A:Around) (outer:List Env) (s:Shared) (H:Hp):Prop where
 frames:A.frames=some outer
 mod:Mod K mg base
 bs:∀ b o,base.get? b=some o→s.heap.get? b=some o∧H b=none
 Lk:base.objs.size≤s.heap.objs.size
 oO:s.heap.FunFrames base outer
 Nk:∀ b∈frs outer,H b=none
 hok:pZ P w H s.heap
 bare:AllBare s.gens
def CE (outer:List Env) (P:Program) (w:World) (H:Hp) (s:Shared) (Q:VK) (u:Value) (s':Shared):Prop :=
 ∃ v H',s'.os=s.os∧AllBare s'.gens∧Un (frs outer) [] H H' s.heap s'.heap∧pZ P w H' s'.heap∧RelV v u∧Q v H'
def CR (CX:Al) (outer:List Env) (P:Program) (w:World) (H:Hp) (s:Shared) (Q:VK) (E:XK) (r:Result) (s':Shared):Prop :=
 match r with
 | .ok (.ret u)=>CE outer P w H s Q u s'
 | .ok _=>False
 | .error e=>CX outer H s E e s'
structure bw (P:Program) (w:World) (K:PySem.W.Frag) (mg:Str→Option Value) (base:Heap) (CX:Al) (k:Nat) (f:Addr) (fd:FuncData) (ps:List Str) (sp:Sp):Prop where
 len:∀ vs H Q E,sp vs H Q E→vs.length=ps.length
 run:∀ (A:Around) (outer:List Env) (s:Shared) (H:Hp) (args:Args) (us:List Value) (vs:List V) (Q:VK) (E:XK),dO k A→sI P w K mg base A outer s H→BindsTo s fd args (ps.zip us)→Vals vs us→sp vs H Q E →
   codeAny (model P w) A (.call (.ref f) args) (CR CX outer P w H s Q E) s
theorem bw.mono {P:Program}{w:World}{K:PySem.W.Frag}{mg:Str→Option Value}{base:Heap}{CX:Al}{j k:Nat}{f:Addr}{fd:FuncData}{ps:List Str}{sp:Sp} (F:bw P w K mg base CX j f fd ps sp) (h:j≤k) :
   bw P w K mg base CX k f fd ps sp:=⟨F.len,fun A outer s H args us vs Q E hr=>F.run A outer s H args us vs Q E (hr.mono h)⟩
theorem bw.imp {P:Program}{w:World}{K:PySem.W.Frag}{mg:Str→Option Value}{base:Heap}{CX:Al}{k:Nat}{f:Addr}{fd:FuncData}{ps:List Str}{sp ZL:Sp} (F:bw P w K mg base CX k f fd ps sp)
   (h:∀ vs H Q E,ZL vs H Q E→sp vs H Q E):bw P w K mg base CX k f fd ps ZL :=
 ⟨fun vs H Q E q=>F.len vs H Q E (h _ _ _ _ q),fun A outer s H args us vs Q E hr he hb hv hs=>F.run A outer s H args us vs Q E hr he hb hv (h _ _ _ _ hs)⟩
theorem sI.make {P:Program}{w:World}{K:PySem.W.Frag}{mg:Str→Option Value}{base:Heap}{A:Around}{outer:List Env}{s:Shared}{H:Hp} (e:sI P w K mg base A outer s H) (C:Addr) (us:List Value) (kw:List (Str × Value)) :
   sI P w K mg base (A.under (.builtin "type.__call__" ⟨.ref C::us,kw⟩)) outer s H:=⟨by first | exact e.frames | (simpa [Around.under,Code.envs,Code.isFrame,pushEnvs] using e.frames),e.mod,e.bs,e.Lk,e.oO,e.Nk,e.hok,e.bare⟩
theorem sI.in1 {P:Program}{w:World}{K:PySem.W.Frag}{mg:Str→Option Value}{base:Heap}{A:Around}{outer:List Env}{s:Shared}{H:Hp} (e:sI P w K mg base A outer s H) :
   sI P w K mg base A.in1 outer s H:=⟨e.frames,e.mod,e.bs,e.Lk,e.oO,e.Nk,e.hok,e.bare⟩
section
variable {X:Cx}{pins:List (Addr × Obj)}{σ:St}{H:Hp}{s s':Shared}
theorem Inv.env0 (I:Inv X pins σ H s):sI X.prog X.w X.K X.mg X.base X.A X.stack s H :=
 ⟨I.ok.frames,I.ok.mod,I.bs,Nat.le_trans I.ok.Lk I.sz,I.stack,I.CN,I.hok,I.bare⟩
theorem Inv.after {Q:VK}{u:Value} (I:Inv X pins σ H s) (h:CE X.stack X.prog X.w H s Q u s'):EP X pins σ Q u s':=by
 obtain⟨v,H',os,bare,un,hok,r,q⟩:=h
 obtain⟨hh,g,d,t,os'⟩:=s'
 obtain rfl:os'=s.os:=os
 exact⟨v,H',I.call (h':=hh) (g':=g) (d':=d) (t':=t) (ch:=[]) un hok bare (fun b z=>absurd z (by simp)),r,q⟩
end
def Tw (sp:Sp) (qX:List V) (E:XK) (t:TA):TE:=fun σ H Q=>t σ H fun vs H1=>sp (vs++qX) H1 Q E
def Tz (C:Addr) (sp:Sp) (qX:List V) (E:XK) (t:TA):TE:=fun σ H Q=>t σ H fun vs H1=>∀ x dx,H1 x=none→H1 dx=none→dx≠x →
 sp (.ref x::(vs++qX)) (upd (upd H1 dx (.own x)) x (.ins C dx [])) (fun v H2=>v=.non∧Q (.ref x) H2) E
def Binds (K:PySem.W.Frag) (fd:FuncData) (ps:List Str) (ds:List Value):Prop :=
 ∀ (s:Shared) (us:List Value),K.In s.heap→(us++ds).length=ps.length→BindsTo s fd ⟨us,[]⟩ (ps.zip (us++ds))
theorem Binds.all {K:PySem.W.Frag}{fd:FuncData}{ps:List Str} (h:∀ us:List Value,us.length=ps.length→bindArgs fd ⟨us,[]⟩=pure (ps.zip us)):Binds K fd ps []:=fun s us _ hl=>by
 rw [List.append_nil] at hl ⊢
 exact .of_eq (h us hl)
def Passes (CX:Al) (X:Cx) (E:XK):Prop:=∀ (pins:List (Addr × Obj)) (σ:St) (H:Hp) (s:Shared) (e:Value) (s':Shared),Inv X pins σ H s→CX X.stack H s E e s'→X.xe e s'
section
variable {X:Cx}{CX:Al}{k:Nat}{f C:Addr}{fd:FuncData}{ps:List Str}{sp:Sp}{qX:List V}{ds:List Value}{E:XK}{x m:Str}{p pos apos:Pos}{e o:Expr}{es:List Expr}{ta:TE}{t:TA}
theorem CV {pins:List (Addr × Obj)}{σ:St}{H:Hp}{s:Shared}{Q:VK}{us:List Value}{vs:List V} (F:bw X.prog X.w X.K X.mg X.base CX k f fd ps sp) (hr:dO k X.A) (hb:Binds X.K fd ps ds) (hd:Vals qX ds) (hx:Passes CX X E)
   (I:Inv X pins σ H s) (r:Vals vs us) (h:sp (vs++qX) H Q E):wpAny (model X.prog X.w) X.A (call (.ref f) us) (EP X pins σ Q) X.xe s:=by
 have r2:Vals (vs++qX) (us++ds):=r.append hd
 have hl:(us++ds).length=ps.length:=by rw [← r2.length];exact F.len _ _ _ _ h
 refine wpAny_call (codeAny_mono (F.run X.A X.stack s H ⟨us,[]⟩ (us++ds) (vs++qX) Q E hr I.env0 (hb s us I.wY hl) r2 h) fun r s' hq=>?_)
 cases r with
 | error e=>exact hx pins σ H s e s' I hq
 | ok fl =>
   cases fl with
   | ret u=>exact I.after hq
   | next=>exact False.elim hq
   | brk=>exact False.elim hq
   | cont=>exact False.elim hq
theorem zZ (F:bw X.prog X.w X.K X.mg X.base CX k f fd ps sp) (hr:dO k X.A) (hg:Gl X x) (hm:X.mg x=some (.ref f)) (hk:PySem.W.keepIn X.K (.ref f)=true) (hb:Binds X.K fd ps ds) (hd:Vals qX ds) (hx:Passes CX X E)
   (ha:PA X (e::es) t) (hdb:(x == ("__debug__":Str))=false:=by decide) (he:starEach (e::es) X.env=(false,eval e X.env)::starEach es X.env:=by rfl) (hpl:(backTo pos (starEach es X.env)).any (·.1)=false:=by rfl) :
   PE X (.Call (.Name x p) (e::es) [] pos) (Tw sp qX E t):=by
 intro pins s σ H Q I h
 refine wpAny_Call_Name_kw (p7 I hg hm ?_ hdb)
 refine PySem.W.callWith_K (h₀:=X.base) I.ok.mod.Tv hk (dm (ha pos pins s σ H _ I h) fun us s1 ⟨vs,H1,I1,r,q⟩=>⟨I1.wY,?_⟩) he hpl
 exact CV F hr hb hd hx I1 r q
structure Mk (K:PySem.W.Frag) (C f:Addr):Prop where
 makes:PySem.W.makesIn K C=true
 init:PySem.W.findIn K (.ref C) "__init__" = some (some (.ref f))
 fn:PySem.W.isFn K (.ref f)=true
 kp:PySem.W.keepIn K (.ref C)=true
theorem Fd {pins:List (Addr × Obj)}{σ:St}{H:Hp}{s:Shared}{Q:VK}{us:List Value}{vs:List V} (M:Mk X.K C f) (F:bw X.prog X.w X.K X.mg X.base CX k f fd ps sp) (hr:dO (k+1) X.A) (hb:Binds X.K fd ps ds) (hd:Vals qX ds)
   (hx:Passes CX X E) (I:Inv X pins σ H s) (r:Vals vs us)
   (h:∀ x dx,H x=none→H dx=none→dx≠x→sp (.ref x::(vs++qX)) (upd (upd H dx (.own x)) x (.ins C dx [])) (fun v H2=>v=.non∧Q (.ref x) H2) E) :
   wpAny (model X.prog X.w) X.A (call (.ref C) us) (EP X pins σ Q) X.xe s:=by
 have hq:=h (s.heap.objs.size+1) s.heap.objs.size (I.hok.fresh (Nat.le_succ _)) (I.hok.fresh (Nat.le_refl _)) (Nat.ne_of_lt (Nat.lt_succ_self _))
 have I2:=Inv.made (C:=C) I
 have r2:Vals (V.ref (s.heap.objs.size+1)::(vs++qX)) (Value.ref (s.heap.objs.size+1)::(us++ds)):=.cons rfl (r.append hd)
 have hl:(Value.ref (s.heap.objs.size+1)::us++ds).length=ps.length:=by
   have e:=r2.length
   rw [F.len _ _ _ _ hq] at e
   exact e.symm
 refine wpAny_call (NZ (f:=f) I.wY M.makes M.init (beq_iff_eq.mp M.fn) (codeAny_mono (F.run _ X.stack _ _ ⟨Value.ref (s.heap.objs.size+1)::us,[]⟩ (Value.ref (s.heap.objs.size+1)::(us++ds)) _ _ E (hr.make C us [])
   (I2.env0.make C us []) (hb _ (Value.ref (s.heap.objs.size+1)::us) I2.wY hl) r2 hq) fun r s' hq'=>?_))
 cases r with
 | error e=>exact hx pins σ _ _ e s' I2 hq'
 | ok fl =>
   cases fl with
   | ret u =>
     obtain⟨v,H',I3,rv,ev,q3⟩:=I2.after hq'
     subst ev
     exact⟨rv,⟨V.ref (s.heap.objs.size+1),H',I3,rfl,q3⟩⟩
   | next=>exact False.elim hq'
   | brk=>exact False.elim hq'
   | cont=>exact False.elim hq'
theorem yX (M:Mk X.K C f) (F:bw X.prog X.w X.K X.mg X.base CX k f fd ps sp) (hr:dO (k+1) X.A) (hg:Gl X x) (hm:X.mg x=some (.ref C)) (hb:Binds X.K fd ps ds) (hd:Vals qX ds) (hx:Passes CX X E)
   (ha:PA X (e::es) t) (hdb:(x == ("__debug__":Str))=false:=by decide) (he:starEach (e::es) X.env=(false,eval e X.env)::starEach es X.env:=by rfl) (hpl:(backTo pos (starEach es X.env)).any (·.1)=false:=by rfl) :
   PE X (.Call (.Name x p) (e::es) [] pos) (Tz C sp qX E t):=by
 intro pins s σ H Q I h
 refine wpAny_Call_Name_kw (p7 I hg hm ?_ hdb)
 refine PySem.W.callWith_K (h₀:=X.base) I.ok.mod.Tv M.kp (dm (ha pos pins s σ H _ I h) fun us s1 ⟨vs,H1,I1,r,q⟩=>⟨I1.wY,?_⟩) he hpl
 exact Fd M F hr hb hd hx I1 r q
theorem xg (M:Mk X.K C f) (F:bw X.prog X.w X.K X.mg X.base CX k f fd ps sp) (hr:dO (k+1) X.A) (hg:Gl X x) (hm:X.mg x=some (.ref C)) (hb:Binds X.K fd ps ds) (hd:Vals qX ds) (hx:Passes CX X E)
   (hdb:(x == ("__debug__":Str))=false:=by decide):PE X (.Call (.Name x p) [] [] pos) (Tz C sp qX E LC):=by
 intro pins s σ H Q I h
 refine wpAny_Call_Name_kw (p7 I hg hm ?_ hdb)
 exact PySem.W.callWith_K0 I.wY M.kp (Fd (us:=[]) M F hr hb hd hx I .nil h)
end
section
variable {X:Cx}{CX:Al}{k:Nat}{f C:Addr}{fd:FuncData}{ps ks:List Str}{sp:Sp}{E:XK}{x m:Str}{p pos apos aub:Pos}{e o:Expr}{es:List Expr}{kws:List Keyword}{te ta:TE}{t tk:TA}{nm:Option Str}
structure ajP (K:PySem.W.Frag) (fd:FuncData) (ps ks:List Str) (g:List Value→List Value→List Value) (gV:List V→List V→List V):Prop where
 to:∀ (s:Shared) (us ws:List Value),K.In s.heap→(g us ws).length=ps.length→BindsTo s fd ⟨us,ks.zip ws⟩ (ps.zip (g us ws))
 rel:∀ {vs:List V}{us:List Value}{zs:List V}{ws:List Value},Vals vs us→Vals zs ws→Vals (gV vs zs) (g us ws)
variable {g:List Value→List Value→List Value}{gV:List V→List V→List V}
end
structure az (N P:List Str) (sc:Scope):Prop where
 kind:sc.kind=.function
 co:sc.isCoroutine=false
 gen:sc.isGenerator=false
 nd:N.Nodup
 pre:N.take P.length=P
 par:∀ x∈P,sc.names.lookup x=some .local∨sc.names.lookup x=some .cell
 Vh:∀ y∈sc.names,y.2≠.free
theorem BJ {kindOf:Str→Option NameKind}{x:Str}:∀ {binds:List (Str × Value)}{m:Str→Option Value},(∀ v,(x,v)∉binds)→bindL kindOf binds m x=m x
 | [],_,_=>rfl
 | (n,v)::r,m,h=>by
   unfold bindL
   rw [BJ fun w hw=>h w (List.mem_cons_of_mem _ hw)]
   split
   · have:x≠n:=by rintro rfl;exact h v List.mem_cons_self
     simp [this]
   · rfl
theorem BK {kindOf:Str→Option NameKind}{x:Str}:∀ {binds:List (Str × Value)}{m:Str→Option Value},(∀ v,(x,v)∉binds)→bindC kindOf binds m x=m x
 | [],_,_=>rfl
 | (n,v)::r,m,h=>by
   unfold bindC
   rw [BK fun w hw=>h w (List.mem_cons_of_mem _ hw)]
   split
   · rfl
   · have:x≠n:=by rintro rfl;exact h v List.mem_cons_self
     simp [this]
theorem BL {kindOf:Str→Option NameKind}{x:Str}{v:Value}:∀ {P:List Str}{vs:List Value}{i:Nat}{m:Str→Option Value},P.Nodup→P[i]? = some x→vs[i]? = some v→kindOf x=some .local →
   bindL kindOf (P.zip vs) m x=some v
 | [],_,_,_,_,h,_,_=>by simp at h
 | _::_,[],_,_,_,_,h,_=>by simp at h
 | p::P,w::vs,0,m,nd,h1,h2,hk=>by
   simp at h1 h2;subst h1;subst h2
   show bindL kindOf ((p,w)::P.zip vs) m p=_
   unfold bindL
   rw [BJ fun v hv=>(List.nodup_cons.mp nd).1 (List.of_mem_zip hv).1,if_pos hk]
   simp
 | p::P,w::vs,i+1,m,nd,h1,h2,hk=>by
   show bindL kindOf ((p,w)::P.zip vs) m x=_
   unfold bindL
   exact BL (i:=i) (List.nodup_cons.mp nd).2 (by simpa using h1) (by simpa using h2) hk
theorem BP {kindOf:Str→Option NameKind}{x:Str}{v:Value}:∀ {P:List Str}{vs:List Value}{i:Nat}{m:Str→Option Value},P.Nodup→P[i]? = some x→vs[i]? = some v→kindOf x≠some .local →
   bindC kindOf (P.zip vs) m x=some v
 | [],_,_,_,_,h,_,_=>by simp at h
 | _::_,[],_,_,_,_,h,_=>by simp at h
 | p::P,w::vs,0,m,nd,h1,h2,hk=>by
   simp at h1 h2;subst h1;subst h2
   show bindC kindOf ((p,w)::P.zip vs) m p=_
   unfold bindC
   rw [BK fun v hv=>(List.nodup_cons.mp nd).1 (List.of_mem_zip hv).1,if_neg hk]
   simp
 | p::P,w::vs,i+1,m,nd,h1,h2,hk=>by
   show bindC kindOf ((p,w)::P.zip vs) m x=_
   unfold bindC
   exact BP (i:=i) (List.nodup_cons.mp nd).2 (by simpa using h1) (by simpa using h2) hk
def start (N:List Str) (vs:List V):St:=vs.map some++List.replicate (N.length - vs.length) none
def Fe (CX:Al) (P:Program) (w:World) (K:PySem.W.Frag) (mg:Str→Option Value) (base:Heap) (N:List Str) (qual:Str) (scope:Scope) (f:Addr) (cd:Value) (A:Around) (outer:List Env) (s:Shared) (H:Hp) (E:XK):Cx where
 prog:=P
 w:=w
 K:=K
 mg:=mg
 base:=base
 A:=A.deeper (envOfC qual scope s.heap.objs.size f cd)
 N:=N
 s₀:=s
 H₀:=H
 env:=envOfC qual scope s.heap.objs.size f cd
 outer:=outer
 stack:=envOfC qual scope s.heap.objs.size f cd::outer
 ex:=[]
 calm:=true
 fn:=fun _=>true
 pn:=[]
 xe:=fun e s'=>wpAny (model P w) (A.deeper (envOfC qual scope s.heap.objs.size f cd)) (leaving (envOfC qual scope s.heap.objs.size f cd) e) (fun _ s''=>CX outer H s E e s'') (fun e' s''=>CX outer H s E e' s'') s'
theorem Ff {sc:Scope}{n:Nat}{x:Str} (h:sc.names.lookup x=some .cell):∃ c,(cellsFrom n sc.names []).lookup x=some c:=by
 have q:=PySem.W.cellsFrom_some sc.names n [] (.inl h)
 exact Option.isSome_iff_exists.mp q
theorem LK {CX:Al}{P:Program}{w:World}{K:PySem.W.Frag}{mg:Str→Option Value}{base:Heap}{N ps:List Str}{qual:Str}{scope:Scope}{f:Addr}{cd:Value}{A:Around}{outer:List Env}{s s1:Shared}{H:Hp}{E:XK}{us:List Value}{vs:List V}
   (S:az N ps scope) (hd:A.handled=none) (e0:sI P w K mg base A outer s H) (hl:vs.length=ps.length) (r:Vals vs us)
   (x:InCallC s s.heap.objs.size (bindL (envOfC qual scope s.heap.objs.size f cd).kindOf (ps.zip us) fun _=>none) (cellsFrom (s.heap.objs.size+1) scope.names []) (bindC (envOfC qual scope s.heap.objs.size f cd).kindOf (ps.zip us) fun _=>none) s1) :
   Inv (Fe CX P w K mg base N qual scope f cd A outer s H E) [] (start N vs) H s1:=by
 have hpl:ps.length≤N.length:=by have:=congrArg List.length S.pre;rw [List.length_take] at this;omega
 obtain⟨h1,tk,rfl,hk⟩:=x.done
 have Rp:∀ b:Addr,b∉(Fe CX P w K mg base N qual scope f cd A outer s H E).ex:=fun b z=>absurd (show b∈([]:List Addr) from z) (by simp)
 refine⟨⟨e0.mod,S.kind,rfl,rfl,Nat.le_refl _,fun y z c h1 h2=>?_,fun y hy=>?_,fun y c _ h=>?_,fun _=>hd,Around.frames_deeper e0.frames,.inr ⟨rfl,rfl⟩,fun b z=>absurd z (Rp b),e0.bs,e0.Lk,fun b _ _=>Rp b,fun b z=>absurd z (Rp b),e0.oO,e0.Nk⟩,
   rfl,e0.bare,Un.kept hk,⟨_,x.toInCall.ns,fun i y v h1 h2 h3=>?_⟩,fun y c h=>⟨_,x.cell y c h⟩,e0.hok.fresh (Nat.le_refl _),fun y c h=>?_,fun p hp=>absurd (show p∈([]:List (Addr × Obj)) from hp) (by simp),e0.hok.kept hk,?_⟩
 · exact name_of_addr x.apart (PySem.mem_of_lookup h1) (PySem.mem_of_lookup h2)
 · have hy:scope.names.lookup y=some .cell∨scope.names.lookup y=some .free:=hy
   rcases hy with hy | hy
   · exact Ff hy
   · exact absurd rfl (S.Vh _ (PySem.mem_of_lookup hy))
 · exact Nat.le_of_lt (x.above y c (PySem.mem_of_lookup h))
 · have hi:i<vs.length:=by
     unfold start at h2
     by_cases hi:i<vs.length
     · exact hi
     · rw [List.getElem?_append_right (by simpa using hi)] at h2
       rw [List.getElem?_replicate] at h2
       split at h2 <;> cases h2
   have ha:vs[i]? = some v:=by
     unfold start at h2
     rw [List.getElem?_append_left (by simpa using hi),List.getElem?_map] at h2
     cases e:vs[i]? with
     | none=>rw [e] at h2;cases h2
     | some a=>rw [e] at h2;cases h2;rfl
   obtain⟨u,hu,rv⟩:=r.get ha
   have hp:ps[i]? = some y:=by
     rw [← S.pre,List.getElem?_take_of_lt (by omega)];exact h1
   have ndP:ps.Nodup:=by rw [← S.pre];exact S.nd.sublist (List.take_sublist _ _)
   refine⟨u,rv,?_⟩
   rcases S.par y (List.mem_of_getElem? hp) with k | k
   · exact .inl ⟨k,BL ndP hp hu k⟩
   · obtain⟨c,e⟩:=Ff (n:=s.heap.objs.size+1) k
     refine .inr ⟨.inl k,c,e,?_⟩
     have q:=x.cell y c e
     rw [BP ndP hp hu (by show scope.names.lookup y≠_;rw [k];decide)] at q
     exact q
 · exact e0.hok.fresh (Nat.le_of_lt (x.above y c (PySem.mem_of_lookup h)))
 · unfold start
   show _=N.length
   rw [List.length_append,List.length_map,List.length_replicate]
   omega
theorem N6 {CX:Al}{P:Program}{w:World}{K:PySem.W.Frag}{mg:Str→Option Value}{base:Heap}{k:Nat}{f:Addr}{name qual:Str}{params:Arguments}{body:List Stmt}{scope:Scope}{dV kV doc pm cdv ct oc:Value}{an od:Option Addr}
   {osl:Array (Option Value)}{N ps:List Str}{sp:Sp} (lk:K.lookup f=some ⟨oc,od,.func (PySem.W.fnOf name qual params body scope dV kV doc pm an cdv ct),osl⟩) (hcd:PySem.W.codeIn K cdv qual=true) (S:az N ps scope)
   (len:∀ vs H Q E,sp vs H Q E→vs.length=ps.length)
   (hbody:∀ (A:Around) (outer:List Env) (s:Shared) (H:Hp) (vs:List V) (Q:VK) (E:XK),dO k (A.deeper (envOfC qual scope s.heap.objs.size f cdv))→sp vs H Q E →
     ∃ t,nU (Fe CX P w K mg base N qual scope f cdv A outer s H E) body t∧t { nx:=fun _ H'=>Q .non H',rt:=Q } (start N vs) H) :
   bw P w K mg base CX (k+1) f (PySem.W.fnOf name qual params body scope dV kV doc pm an cdv ct) ps sp:=by
 refine⟨len,fun A outer s H args us vs Q E hr e0 hb r hsp=>?_⟩
 have hl:=len _ _ _ _ hsp
 have KX:K.In s.heap:=e0.mod.Tv.keeps fun b o e=>(e0.bs b o e).1
 have lim:s.heap.NoLimit:=e0.mod.nolimit.keeps fun b o e=>(e0.bs b o e).1
 have hkind:∀ y∈ps.zip us,scope.names.lookup y.1=some .local∨(scope.names.lookup y.1=some .cell∧((cellsFrom (s.heap.objs.size+1) scope.names []).lookup y.1).isSome=true):=fun⟨n,v⟩ hy=>by
   rcases S.par n (List.of_mem_zip hy).1 with q | q
   · exact .inl q
   · exact .inr ⟨q,PySem.W.cellsFrom_some _ _ _ (.inl q)⟩
 refine codeAny_call_function hr.depth (KX _ _ lk) rfl S.co S.gen rfl (PySem.W.codeRec_of KX hcd) (hb _ _ _ _ ?_)
 refine wpAny_newFunctionEnv_cells S.kind hkind fun env he s1 x=>?_
 subst he
 refine⟨lim.keeps x.toInCall.keep,codeAny_func ?_⟩
 obtain⟨t,ht,hq⟩:=hbody A outer s H vs Q E (hr.deeper _) hsp
 have I:Inv (Fe CX P w K mg base N qual scope f cdv A outer s H E) [] (start N vs) H s1:=LK S hr.hd e0 hl r x
 refine wpAny_mono (ht [] s1 (start N vs) H _ I hq) (fun fl s' hs=>?_) fun e s' hs=>hs
 have fin:∀ {σ':St}{H':Hp}{v:V}{u:Value},Inv (Fe CX P w K mg base N qual scope f cdv A outer s H E) [] σ' H' s'→RelV v u→Q v H'→CE outer P w H s Q u s' :=
   fun {σ' H' v u} J rv q=>⟨v,H',J.os,J.bare,J.base,J.hok,rv,q⟩
 cases fl with
 | ret u =>
   obtain⟨v,σ',H',J,rv,q⟩:=hs
   exact fin J rv q
 | next =>
   obtain⟨σ',H',J,q⟩:=hs
   exact fin (v:=V.non) (u:=Value.none) J rfl q
 | brk =>
   obtain⟨_,_,_,q⟩:=hs
   exact False.elim q
 | cont =>
   obtain⟨_,_,_,q⟩:=hs
   exact False.elim q
end L2
namespace L2
open PySem PySem.Spec PyProof.Rows
section
variable {X:Cx}{x:Str}{p pos:Pos}{e:Expr}{es:List Expr}{t:TA}{id T:String}{r:List V→Hp→VK→Prop}
def tCB (r:List V→Hp→VK→Prop) (t:TA):TE:=fun σ H Q=>t σ H fun vs H1=>r vs H1 Q
theorem zY (hc:cL X (.builtin id) r) (hg:Gl X x) (hm:X.mg x=none) (hv:bootBuiltins x=some (.builtin id)) (ha:PA X (e::es) t) (hn:x≠"__name__":=by decide) (hdb:(x == ("__debug__":Str))=false:=by decide)
   (he:starEach (e::es) X.env=(false,eval e X.env)::starEach es X.env:=by rfl) (hpl:(backTo pos (starEach es X.env)).any (·.1)=false:=by rfl):PE X (.Call (.Name x p) (e::es) [] pos) (tCB r t):=by
 intro pins s σ H Q I h
 refine wpAny_Call_Name_kw (CP I hg hm hv ?_ hn hdb)
 exact PyProof.Rows.callWith_builtin1 (dm (ha pos pins s σ H _ I h) fun us s1 ⟨vs,H1,I1,r1,q1⟩=>hc pins s1 σ H1 vs us Q I1 r1 q1) he hpl
theorem jN (hc:cL X (.type T) r) (hg:Gl X x) (hm:X.mg x=none) (hv:bootBuiltins x=some (.type T)) (ha:PA X (e::es) t) (hn:x≠"__name__":=by decide) (hdb:(x == ("__debug__":Str))=false:=by decide)
   (he:starEach (e::es) X.env=(false,eval e X.env)::starEach es X.env:=by rfl) (hpl:(backTo pos (starEach es X.env)).any (·.1)=false:=by rfl):PE X (.Call (.Name x p) (e::es) [] pos) (tCB r t):=by
 intro pins s σ H Q I h
 refine wpAny_Call_Name_kw (CP I hg hm hv ?_ hn hdb)
 exact PyProof.Rows.callWith_type1 (dm (ha pos pins s σ H _ I h) fun us s1 ⟨vs,H1,I1,r1,q1⟩=>hc pins s1 σ H1 vs us Q I1 r1 q1) he hpl
end
end L2
namespace HT
open PySem PyProof.Rows
section
open PySem.SeqAt
open PySem.AutoSeq1 (wpAny_loadPart')
open PySem.MeetsSeq PySem.MeetsSeq2 PySem.MeetsSeq3
end
section
variable {prog:Program}{w:World}{A:Around}{E:Value→Shared→Prop}{s:Shared}
def Ep (n d:Nat):Option Int→Nat
 | none=>d
 | some v=>if v<0 then (v+(n:Int)).toNat else min v.toNat n
end
end HT
namespace L2
open PySem PySem.Spec PyProof.Rows
abbrev TO:=St→Hp→(Option Int→Hp→Prop)→Prop
def PO (X:Cx) (e:Option Expr) (t:TO):Prop :=
 ∀ (pins:List (Addr × Obj)) (s:Shared) (σ:St) (H:Hp) (Q:Option Int→Hp→Prop),Inv X pins σ H s→t σ H Q →
   wpAny (model X.prog X.w) X.A (evalPart e X.env) (fun u s'=>∃ o H',Inv X pins σ H' s'∧IsPart u o∧Q o H') X.xe s
def Rq:TO:=fun _ H Q=>Q none H
def ZM (t:TE):TO:=fun σ H Q=>t σ H fun x H1=>∃ i,x=.int i∧Q (some i) H1
section
variable {X:Cx}{e:Expr}{te:TE}{lo hi:Option Expr}{tl th:TO}{pos p2:Pos}
theorem Rr:PO X none Rq:=by
 intro pins s σ H Q I h
 rw [evalPart_none]
 exact wpAny_pure ⟨none,H,I,.none,h⟩
theorem Rt (h:PE X e te):PO X (some e) (ZM te):=by
 intro pins s σ H Q I hw
 rw [evalPart_some]
 refine dm (h pins s σ H _ I hw) fun u s1 zq=>?_
 obtain⟨x,H1,I1,r1,q1⟩:=zq
 obtain⟨i,rfl,q⟩:=q1
 obtain⟨t,rfl⟩:=r1
 exact⟨some i,H1,I1,.int i t,q⟩
def uE (X:Cx) (r:V→Option Int→Option Int→Hp→VK→Prop):Prop :=
 ∀ (pins:List (Addr × Obj)) (s:Shared) (σ:St) (H:Hp) (x:V) (v vl vu:Value) (lo hi:Option Int) (sl:Addr) (Q:VK),Inv X pins σ H s→RelV x v→s.heap.IsSliceOf sl vl vu .none→IsPart vl lo→IsPart vu hi→r x lo hi H Q →
   ∃ T id,typeLookup (.type T) "__getitem__" = pure (some (.builtin id))∧s.TypeIs v T∧wpAny (model X.prog X.w) X.A (getItem v (.ref sl)) (EP X pins σ Q) X.xe s
theorem uE.or {r r':V→Option Int→Option Int→Hp→VK→Prop} (h:uE X r) (h':uE X r'):uE X (fun x lo hi H Q=>r x lo hi H Q∨r' x lo hi H Q):=by
 intro pins s σ H x v vl vu lo hi sl Q I rx hs pl pu q
 rcases q with q | q
 · exact h pins s σ H x v vl vu lo hi sl Q I rx hs pl pu q
 · exact h' pins s σ H x v vl vu lo hi sl Q I rx hs pl pu q
def tSl (r:V→Option Int→Option Int→Hp→VK→Prop) (te:TE) (tl th:TO):TE:=fun σ H Q=>te σ H fun x H1=>tl σ H1 fun l H2=>th σ H2 fun u H3=>r x l u H3 Q
theorem N7 {r:V→Option Int→Option Int→Hp→VK→Prop} (hr:uE X r) (he:PE X e te) (hl:PO X lo tl) (hu:PO X hi th):PE X (.Subscript e (.Slice lo hi none p2) pos) (tSl r te tl th):=by
 intro pins s σ H Q I h
 refine Subscript_ (dm (he pins s σ H _ I h) fun v s1 zq=>?_)
 obtain⟨x,H1,I1,r1,q1⟩:=zq
 refine wpAny_Slice (dm (hl pins s1 σ H1 _ I1 q1) fun vl s2 ⟨l,H2,I2,pl,q2⟩=>dm (hu pins s2 σ H2 _ I2 q2) fun vu s3 zq=>?_)
 obtain⟨u,H3,I3,pu,q3⟩:=zq
 rw [evalPart_none]
 refine wpAny_pure ?_
 have I4:Inv X pins σ H3 { s3 with heap:=s3.heap.push { cls:=.type "slice",data:=.fields #[vl,vu,.none] } }:=I3.kept (t':=s3.toks) fun b ob q=>Heap.get?_push_of_some _ q
 obtain⟨T,id,hT,ht,hg⟩:=hr pins { s3 with heap:=s3.heap.push { cls:=.type "slice",data:=.fields #[vl,vu,.none] } } σ H3 x v vl vu l u s3.heap.objs.size Q I4 r1 (Heap.IsSliceOf.new ..) pl pu q3
 show wpAny (model X.prog X.w) X.A (subscriptTail e (.Slice lo hi none p2) v (.ref s3.heap.objs.size)) (EP X pins σ Q) X.xe { s3 with heap:=s3.heap.push { cls:=.type "slice",data:=.fields #[vl,vu,.none] } }
 exact tail_any (ops:=[.ref s3.heap.objs.size,v]) ht hT hg (by with_unfolding_all rfl)
def Iw (xs:List V) (lo hi:Option Int):List V:=(xs.drop (HT.Ep xs.length 0 lo)).take (HT.Ep xs.length xs.length hi - HT.Ep xs.length 0 lo)
theorem Fg (xs:List V) (lo hi:Option Int):(Iw xs lo hi).length≤xs.length:=by
 unfold Iw
 rw [List.length_take,List.length_drop]
 omega
end
end L2
namespace L2
open PySem PySem.Spec PyProof.Rows
def Yn (n:Nat) (i:Int):Option Nat:=if 0≤i then (if i<n then some i.toNat else none) else if -(n:Int)≤i then some (i+n).toNat else none
def jc {α:Type} (xs:List α) (i:Int):Option α:=(Yn xs.length i).bind fun j=>xs[j]?
theorem Ru {n:Nat}{i:Int}{j:Nat} (h:Yn n i=some j):seqIndex? i n=some j∧j<n∧-(n:Int)≤i∧i<n:=by
 unfold Yn at h
 by_cases h0:0≤i
 · rw [if_pos h0] at h
   by_cases h1:i<n
   · rw [if_pos h1] at h
     have e:i.toNat=j:=Option.some.inj h
     exact⟨by rw [seqIndex_of h0 h1,e],by omega,by omega,h1⟩
   · rw [if_neg h1] at h;cases h
 · rw [if_neg h0] at h
   by_cases h1:-(n:Int)≤i
   · rw [if_pos h1] at h
     have e:(i+n).toNat=j:=Option.some.inj h
     exact⟨by rw [seqIndex_neg (by omega) h1,e],by omega,h1,by omega⟩
   · rw [if_neg h1] at h;cases h
theorem CW {α:Type}{xs:List α}{i:Int}{v:α} (h:jc xs i=some v):∃ j,seqIndex? i xs.length=some j∧xs[j]? = some v∧j<xs.length∧-(xs.length:Int)≤i∧i<xs.length:=by
 unfold jc at h
 cases e:Yn xs.length i with
 | none=>rw [e] at h;cases h
 | some j =>
   rw [e] at h
   obtain⟨h1,h2,h3,h4⟩:=Ru e
   exact⟨j,h1,h,h2,h3,h4⟩
theorem zP {α:Type}{xs:List α}{j:Nat}{v:α} (h:xs[j]? = some v):jc xs (j:Int)=some v:=by
 have hj:j<xs.length:=(List.getElem?_eq_some_iff.mp h).1
 have e:Yn xs.length (j:Int)=some j:=by
   unfold Yn
   rw [if_pos (by omega),if_pos (by omega)];simp
 unfold jc;rw [e];exact h
def Rv (b:Expr):Prop:=∀ o i,subscripted b false o i=operate [o,i] (getItem o i)
def sJ (X:Cx) (r:R2):Prop :=
 ∀ (value slice:Expr) (pins:List (Addr × Obj)) (s:Shared) (σ:St) (H:Hp) (x y:V) (v u:Value) (Q:VK),Inv X pins σ H s→RelV x v→RelV y u→r x y H Q →
   subscripted slice false v u=operate [v,u] (getItem v u)→wpAny (model X.prog X.w) X.A (subscriptTail value slice v u) (EP X pins σ Q) X.xe s
def ZP (X:Cx) (id:String) (r:V→List V→Hp→VK→Prop):Prop :=
 ∀ (pins:List (Addr × Obj)) (s:Shared) (σ:St) (H:Hp) (x:V) (xs:List V) (v:Value) (us:List Value) (Q:VK),Inv X pins σ H s→RelV x v→Vals xs us→r x xs H Q →
   wpAny (model X.prog X.w) X.A (call (.builtin id) (v::us)) (EP X pins σ Q) X.xe s
section
variable {X:Cx}{a b:Expr}{ta tb:TE}{pos:Pos}
theorem sJ.or {r r':R2} (h:sJ X r) (h':sJ X r'):sJ X (fun x y H Q=>r x y H Q∨r' x y H Q):=by
 intro value slice pins s σ H x y v u Q I rx ry q hs
 rcases q with q | q
 · exact h value slice pins s σ H x y v u Q I rx ry q hs
 · exact h' value slice pins s σ H x y v u Q I rx ry q hs
theorem ZP.or {id:String}{r r':V→List V→Hp→VK→Prop} (h:ZP X id r) (h':ZP X id r'):ZP X id (fun x xs H Q=>r x xs H Q∨r' x xs H Q):=by
 intro pins s σ H x xs v us Q I rx rs q
 rcases q with q | q
 · exact h pins s σ H x xs v us Q I rx rs q
 · exact h' pins s σ H x xs v us Q I rx rs q
theorem zW {r:R2} (hr:sJ X r) (ha:PE X a ta) (hb:PE X b tb) (hs:Rv b):PE X (.Subscript a b pos) (Il r ta tb):=by
 intro pins s σ H Q I h
 exact Subscript_ (Vd ha hb I h fun v u s2 x y H2 I2 rx ry q=>hr a b pins s2 σ H2 x y v u Q I2 rx ry q (hs _ _))
def ajQ (K:PySem.W.Frag):R2:=fun x y H Q=>∃ p xs i v,x=.ref p∧y=.int i∧b7 K H p xs∧jc xs i=some v∧Q v H
def ajR (K:PySem.W.Frag):R2:=fun x y H Q=>∃ p xs i v,x=.ref p∧y=.int i∧ik K H p xs∧jc xs i=some v∧Q v H
def ajS:R2:=fun x y H Q=>∃ z i c,x=.str z∧y=.int i∧z.length≤sizeLine∧jc z.cps.toList i=some c∧Q (.str ⟨#[c]⟩) H
theorem aV:sJ X (ajQ X.K):=by
 intro value slice pins s σ H x y v u Q I rx ry h hs
 obtain⟨p,xs,i,z,rfl,rfl,hq,he,q⟩:=h
 cases rx
 obtain⟨t,rfl⟩:=ry
 obtain⟨its,r,pl,hz⟩:=I.list hq
 obtain⟨j,h1,h2,h3,h4,h5⟩:=CW he
 obtain⟨w,ew,LQ⟩:=r.get h2
 have hl:=r.length
 have hn:=uC
 have fin:EP X pins σ Q w s:=⟨z,H,I,LQ,q⟩
 by_cases h0:0≤i
 · have hj:i.toNat=j:=by
     rw [seqIndex_of h0 h5] at h1
     exact Option.some.inj h1
   exact item_listR pl.isList h0 (by omega) (by rw [hj];simpa using ew) fin hs
 · have hj:(i+(its.toArray.size:Int)).toNat=j:=by
     rw [seqIndex_neg (by omega) h4] at h1
     rw [List.size_toArray,← hl]
     exact Option.some.inj h1
   exact subscriptTail_builtinR (x:=w) pl.isList.typeIs slot_list_getitem.lookup
     (wpAny_getItem_list_neg (Q:=fun r s'=>r=w∧EP X pins σ Q r s') pl.isList (by omega) (by rw [List.size_toArray] <;> omega) (by omega) (by rw [hj];simpa using ew) ⟨rfl,fin⟩) hs
theorem yR:sJ X (ajR X.K):=by
 intro value slice pins s σ H x y v u Q I rx ry h hs
 obtain⟨p,xs,i,z,rfl,rfl,hq,he,q⟩:=h
 cases rx
 obtain⟨t,rfl⟩:=ry
 obtain⟨its,r,pl,hz⟩:=I.tuple hq
 obtain⟨j,h1,h2,h3,h4,h5⟩:=CW he
 obtain⟨w,ew,LQ⟩:=r.get h2
 have hl:=r.length
 have hn:=uC
 have fin:EP X pins σ Q w s:=⟨z,H,I,LQ,q⟩
 exact subscriptTail_builtinR (x:=w) pl.typeIs slot_tuple_getitem.lookup
   (getItem_tuple (j:=j) (Q:=fun r s'=>r=w∧EP X pins σ Q r s') pl (by omega) (by omega) (by rw [List.size_toArray,← hl];exact h1) (by simpa using ew) ⟨rfl,fin⟩) hs
theorem N8:sJ X ajS:=by
 intro value slice pins s σ H x y v u Q I rx ry h hs
 obtain⟨z,i,c,rfl,rfl,hz,he,q⟩:=h
 obtain⟨t,rfl⟩:=rx
 obtain⟨t',rfl⟩:=ry
 obtain⟨j,h1,h2,h3,h4,h5⟩:=CW he
 have hl:z.cps.toList.length=z.length:=by simp [Str.length]
 rw [hl] at h1 h4 h5
 have hn:=uC
 exact tail_any (typeIs_str s z t) slot_str_getitem.lookup (getItem_str (c:=c) (by
   have e1:decide (i < -(2 ^ 63:Int))=false:=decide_eq_false (by omega)
   have e2:decide (i ≥ 2 ^ 63)=false:=decide_eq_false (by omega)
   rw [e1,e2,Bool.or_false]) (by rw [h1];simpa using h2) ⟨.str ⟨#[c]⟩,H,I.tok _,⟨_,rfl⟩,q⟩) hs
theorem Inv.lst {pins:List (Addr × Obj)}{σ:St}{H:Hp}{s:Shared}{p:Addr}{xs:List V} (I:Inv X pins σ H s) (h:H p=some (.lst xs)) :
   ∃ (its:List Value) (n:Nat),Vals xs its∧s.heap.get? p=some { cls:=.type "list",data:=.seq its.toArray n }∧xs.length≤sizeLine:=by
 obtain⟨z,its,n,r,e⟩:=I.hok p _ h
 exact⟨its,n,r,e,z⟩
theorem CZ (lo hi:Option Int) (n:Nat):(sliceBounds lo hi none n).1=((HT.Ep n 0 lo:Nat):Int)∧(sliceBounds lo hi none n).2.1=((HT.Ep n n hi:Nat):Int)∧(sliceBounds lo hi none n).2.2=1:=by
 refine⟨?_,?_,rfl⟩
 · cases lo with
   | none=>simp [sliceBounds,HT.Ep]
   | some i =>
     simp only [sliceBounds,HT.Ep,Option.getD_none,show (1:Int) > 0 by decide,if_true]
     by_cases h:i<0
     · simp only [h,if_true] <;> omega
     · simp only [h,if_false] <;> omega
 · cases hi with
   | none=>simp [sliceBounds,HT.Ep]
   | some i =>
     simp only [sliceBounds,HT.Ep,Option.getD_none,show (1:Int) > 0 by decide,if_true]
     by_cases h:i<0
     · simp only [h,if_true] <;> omega
     · simp only [h,if_false] <;> omega
theorem Ao (its:List Value) (lo hi:Option Int):slicePick its.toArray lo hi none=((its.drop (HT.Ep its.length 0 lo)).take (HT.Ep its.length its.length hi - HT.Ep its.length 0 lo)).toArray:=by
 obtain⟨h1,h2,h3⟩:=CZ lo hi its.toArray.size
 unfold slicePick
 rw [h1,h2,h3]
 simp only [sliceRange_one,pick_run,List.size_toArray] <;> rfl
def ajT (K:PySem.W.Frag):V→Option Int→Option Int→Hp→VK→Prop:=fun x lo hi H Q=>∃ a xs,x=.ref a∧b7 K H a xs∧∀ p,H p=none→Q (.ref p) (upd H p (.lst (Iw xs lo hi)))
theorem Rx:uE X (ajT X.K):=by
 intro pins s σ H x v vl vu lo hi sl Q I rx hs pl pu h
 obtain⟨a,xs,rfl,hx,q⟩:=h
 cases rx
 obtain⟨its,r,ht,hz⟩:=I.list hx
 have hlen:=r.length
 refine⟨"list",_,slot_list_getitem.lookup,ht.isList.typeIs,?_⟩
 refine wpAny_getItem_list_slice ht.isList hs pl pu .none (by simp) ?_ (by rw [List.size_toArray] <;> omega)
 rw [Ao,← hlen]
 refine⟨.ref s.heap.objs.size,_,I.laid (t':=s.toks) (o:=.lst (Iw xs lo hi)) (fun b ob q=>Heap.get?_push_of_some _ q) (Nat.le_refl _) ?_,rfl,q _ (I.hok.fresh (Nat.le_refl _))⟩
 exact⟨Nat.le_trans (Fg xs lo hi) hz,_,0,(r.drop (HT.Ep xs.length 0 lo)).take (HT.Ep xs.length xs.length hi - HT.Ep xs.length 0 lo),Heap.get?_push_size _ rfl⟩
def nY:V→Bool
 | .non=>true
 | .bl _=>true
 | .int _=>true
 | .str _=>true
 | _=>false
def QX:V→V→Bool
 | .non,.non=>true
 | .bl a,.bl b=>a == b
 | .bl a,.int b=>(if a then 1 else 0) == b
 | .int a,.bl b=>a == (if b then 1 else 0)
 | .int a,.int b=>a == b
 | .str a,.str b=>a == b
 | _,_=>false
theorem Vi {A:Around}{s:Shared}{y x:V}{u v:Value} (ry:RelV y u) (rx:RelV x v) (fy:nY y=true) (fx:nY x=true):SeqAt.EqAt A s u v (QX y x):=by
 cases y with
 | non =>
   cases ry
   cases x with
   | non=>cases rx;exact SeqAt.EqAt.same _
   | bl b=>cases rx;exact SeqAt.EqAt.none_bool b
   | int b=>obtain⟨t,rfl⟩:=rx;exact SeqAt.EqAt.none_int b t
   | str b=>obtain⟨t,rfl⟩:=rx;exact SeqAt.EqAt.none_str b t
   | _=>exact absurd (show false=true from fx) Bool.false_ne_true
 | bl a =>
   cases ry
   cases x with
   | non=>cases rx;exact SeqAt.EqAt.bool_none a
   | bl b=>cases rx;exact SeqAt.EqAt.bool_bool a b
   | int b=>obtain⟨t,rfl⟩:=rx;exact SeqAt.EqAt.bool_int a b t
   | str b=>obtain⟨t,rfl⟩:=rx;exact SeqAt.EqAt.bool_str a b t
   | _=>exact absurd (show false=true from fx) Bool.false_ne_true
 | int a =>
   obtain⟨t',rfl⟩:=ry
   cases x with
   | non=>cases rx;exact SeqAt.EqAt.int_none a t'
   | bl b=>cases rx;exact SeqAt.EqAt.int_bool a t' b
   | int b=>obtain⟨t,rfl⟩:=rx;exact SeqAt.EqAt.int_int a t' b t
   | str b=>obtain⟨t,rfl⟩:=rx;exact SeqAt.EqAt.int_str a t' b t
   | _=>exact absurd (show false=true from fx) Bool.false_ne_true
 | str a =>
   obtain⟨t',rfl⟩:=ry
   cases x with
   | non=>cases rx;exact SeqAt.EqAt.str_none a t'
   | bl b=>cases rx;exact SeqAt.EqAt.str_bool a t' b
   | int b=>obtain⟨t,rfl⟩:=rx;exact SeqAt.EqAt.str_int a t' b t
   | str b=>obtain⟨t,rfl⟩:=rx;exact SeqAt.EqAt.str_str a t' b t
   | _=>exact absurd (show false=true from fx) Bool.false_ne_true
 | _=>exact absurd (show false=true from fy) Bool.false_ne_true
def eqU (x:V) (u:Value):Bool:=match u with
 | .none=>QX .non x
 | .bool b=>QX (.bl b) x
 | .int i _=>QX (.int i) x
 | .str z _=>QX (.str z) x
 | _=>false
theorem Oa {x y:V}{u:Value} (r:RelV y u) (f:nY y=true):eqU x u=QX y x:=by
 cases y with
 | non=>cases r;rfl
 | bl b=>cases r;rfl
 | int i=>obtain⟨t,rfl⟩:=r;rfl
 | str z=>obtain⟨t,rfl⟩:=r;rfl
 | _=>exact absurd (show false=true from f) Bool.false_ne_true
theorem Fi {A:Around}{s:Shared}{x:V}{v:Value} (rx:RelV x v) (fx:nY x=true):∀ {xs:List V}{us:List Value},Vals xs us→xs.all nY=true→∀ u∈us,SeqAt.EqAt A s u v (eqU x u)
 | _,_,.nil,_=>fun u hu=>by cases hu
 | y::xs,u::us,.cons r t,f=>fun u' hu=>by
   rw [List.all_cons,Bool.and_eq_true] at f
   rcases List.mem_cons.mp hu with rfl | hu
   · rw [Oa r f.1];exact Vi r rx f.1 fx
   · exact Fi rx fx t f.2 u' hu
theorem yU:cL X (.builtin "len") (fun xs H Q=>∃ p ys,xs=[.ref p]∧(b7 X.K H p ys∨ik X.K H p ys)∧Q (.int ys.length) H):=by
 intro pins s σ H xs us Q I r h
 obtain⟨p,ys,rfl,hq,q⟩:=h
 obtain⟨u,rfl,rx⟩:=vals1 r
 cases rx
 have hn:=uC
 rcases hq with hq | hq
 · obtain⟨its,r',pl,hz⟩:=I.list hq
   have hlen:=r'.length
   exact Calls.call_len_list pl.isList (by simp only [List.size_toArray] <;> omega) ⟨.int ys.length,H,I.tok _,⟨s.toks+1,by rw [List.size_toArray,hlen]⟩,q⟩
 · obtain⟨its,r',pl,hz⟩:=I.tuple hq
   have hlen:=r'.length
   exact len_tuple pl (by simp only [List.size_toArray] <;> omega) ⟨.int ys.length,H,I.tok _,⟨s.toks+1,by rw [List.size_toArray,hlen]⟩,q⟩
theorem cL.or {f:Value}{r r':List V→Hp→VK→Prop} (h:cL X f r) (h':cL X f r'):cL X f (fun xs H Q=>r xs H Q∨r' xs H Q):=by
 intro pins s σ H xs us Q I rs q
 rcases q with q | q
 · exact h pins s σ H xs us Q I rs q
 · exact h' pins s σ H xs us Q I rs q
theorem jF:cL X (.type "list") (fun xs H Q=>∃ p ys,xs=[.ref p]∧(b7 X.K H p ys∨ik X.K H p ys)∧∀ l,H l=none→Q (.ref l) (upd H l (.lst ys))):=by
 intro pins s σ H xs us Q I r h
 obtain⟨p,ys,rfl,hq,q⟩:=h
 obtain⟨u,rfl,rx⟩:=vals1 r
 cases rx
 have fin:∀ (its:List Value),Vals ys its→ys.length≤sizeLine→∀ (h':Heap) (c':Nat),(∀ b o',s.heap.get? b=some o'→h'.get? b=some o') →
     h'.get? s.heap.objs.size=some { cls:=.type "list",dict:=none,data:=.seq its.toArray c',slots:=#[] }→EP X pins σ Q (.ref s.heap.objs.size) { s with heap:=h' }:=fun its r' hz h' c' kp e =>
   ⟨.ref s.heap.objs.size,_,I.laid (t':=s.toks) kp (Nat.le_refl _) (show cu X.prog X.w _ h' _ (.lst ys) from ⟨hz,its,c',r',e⟩),rfl,q _ (I.hok.fresh (Nat.le_refl _))⟩
 rcases hq with hq | hq
 · obtain⟨its,r',pl,hz⟩:=I.list hq
   have hlen:=r'.length
   obtain⟨o,ho,hc,n,hd⟩:=pl.isList
   exact call_list_seq p (.inl rfl) ho hc hd (fun h' c' kp e=>fin its r' hz h' c' kp e) (by simp only [List.size_toArray] <;> omega)
 · obtain⟨its,r',pl,hz⟩:=I.tuple hq
   have hlen:=r'.length
   obtain⟨o,ho,hc,n,hd⟩:=pl
   exact call_list_seq p (.inr rfl) ho hc hd (fun h' c' kp e=>fin its r' hz h' c' kp e) (by simp only [List.size_toArray] <;> omega)
def tyV (K:PySem.W.Frag) (T:String) (x:V) (H:Hp):Prop:=match x with
 | .str _=>T="str"
 | .int _=>T="int"
 | .ref p=>(T="list"∧∃ xs,b7 K H p xs)∨(T="tuple"∧∃ o,K.lookup p=some o∧o.cls=.type "tuple"∧o.dict=none) ∨
     (T="dict"∧((∃ kvs,H p=some (.dK kvs))∨∃ kvs,H p=some (.dT kvs)))∨(T="set"∧∃ S n,H p=some (.set S n))
 | _=>False
theorem Vj {pins:List (Addr × Obj)}{σ:St}{H:Hp}{s:Shared}{T:String}{x:V}{v:Value} (I:Inv X pins σ H s) (r:RelV x v) (ty:tyV X.K T x H) :
   s.TypeIs v T∧∀ a,v=.ref a→∃ ob,s.heap.get? a=some ob∧ob.dict=none:=by
 cases x with
 | str z =>
   obtain⟨t,rfl⟩:=r
   cases (show T="str" from ty)
   exact⟨typeIs_str s z t,fun _ e=>nomatch e⟩
 | int i =>
   obtain⟨t,rfl⟩:=r
   cases (show T="int" from ty)
   exact⟨typeIs_int s i t,fun _ e=>nomatch e⟩
 | ref p =>
   cases r
   rcases ty with ⟨rfl,xs,hq⟩ | ⟨rfl,o,hk,hc,hd⟩ | ⟨rfl,hk⟩ | ⟨rfl,S,n,hk⟩
   · obtain⟨its,_,pl,_⟩:=I.list hq
     refine⟨pl.isList.typeIs,fun a e=>?_⟩
     cases e
     obtain⟨o,n,e,c,hd,_⟩:=pl
     exact⟨o,e,hd⟩
   · refine⟨⟨o,I.wY p o hk,hc⟩,fun a e=>?_⟩
     cases e
     exact⟨o,I.wY _ o hk,hd⟩
   · have z:∃ o,s.heap.get? p=some o∧o.ExactDict:=by
       rcases hk with ⟨kvs,hk⟩ | ⟨kvs,hk⟩
       · obtain⟨_,_,_,_,o,_,_,e,ex,_⟩:=I.hok p _ hk
         exact⟨o,e,ex⟩
       · obtain⟨_,_,_,_,o,_,_,e,ex,_⟩:=I.hok p _ hk
         exact⟨o,e,ex⟩
     obtain⟨o,e,ex⟩:=z
     refine⟨⟨o,e,ex.1⟩,fun a e2=>?_⟩
     cases e2
     exact⟨o,e,ex.2.1⟩
   · obtain⟨o,_,_,_,e,ex,_⟩:=I.hok p _ hk
     refine⟨⟨o,e,ex.1⟩,fun a e2=>?_⟩
     cases e2
     exact⟨o,e,ex.2.1⟩
 | _=>exact False.elim ty
def tBM (K:PySem.W.Frag) (T:String) (r:V→List V→Hp→VK→Prop) (to:TE) (t:TA):TE:=fun σ H Q=>to σ H fun x H1=>tyV K T x H1∧t σ H1 fun xs H2=>r x xs H2 Q
variable {o e:Expr}{es:List Expr}{to:TE}{t:TA}{name:Str}{apos cpos:Pos}{T id:String}{r:V→List V→Hp→VK→Prop}
theorem vD (pa:PlainAttrs T) (slot:Slot T name id) (hty:typeOf (.builtin id)=pure (.type "method_descriptor")) (hm:ZP X id r) (ho:PE X o to) (ha:PA X (e::es) t)
   (hbase:attributeBase o name X.env (eval o X.env)=eval o X.env:=by rfl)
   (hfew:((backTo cpos (starEach (e::es) X.env)).all (fun x=>!x.1) && (backToKw cpos (keywordEach [] X.env)).all (fun x=>x.1.isSome)
     && decide ((e::es).length+([]:List Keyword).length+(if ([]:List Keyword).isEmpty then 0 else 1)<30))=true:=by rfl)
   (hline:(apos.endLine == cpos.line)=true:=by rfl) (hs:starEach (e::es) X.env=(false,eval e X.env)::starEach es X.env:=by rfl) (hplain:(backTo cpos (starEach es X.env)).any (·.1)=false:=by rfl) :
   PE X (.Call (.Attribute o name apos) (e::es) [] cpos) (tBM X.K T r to t):=by
 intro pins s σ H Q I h
 refine wpAny_Call_method_late hbase hfew hline rfl (dm (ho pins s σ H _ I h) fun v s1 zq=>?_)
 obtain⟨x,H1,I1,r1,ty,q1⟩:=zq
 obtain⟨h1,h2⟩:=Vj I1 r1 ty
 refine⟨T,id,pa,slot,hty,h1,h2,?_⟩
 have hA:=ha cpos pins s1 σ H1 _ I1 q1
 rw [hs] at hA ⊢
 refine Calls.callWith_builtin (by show (false || (backTo cpos (starEach es X.env)).any (·.1))=false;rw [hplain] <;> rfl) (Calls.evalArgs_plain ?_)
 exact dm hA fun us s2 ⟨vs,H2,I2,r2,q2⟩=>hm pins s2 σ H2 x vs v us Q I2 r1 r2 q2
end
end L2
namespace L2
open PySem PySem.Spec PyProof.Rows
def MtM (X:Cx) (id:String) (r:V→List V→Hp→VK→Prop):Prop :=
 ∀ (pins:List (Addr × Obj)) (s:Shared) (σ:St) (H:Hp) (x:V) (xs:List V) (v:Value) (us:List Value) (Q:VK),Inv X pins σ H s→RelV x v→Vals xs us→r x xs H Q →
   wpAny (model X.prog X.w) X.A (call (.builtin id) (v::us)) (EP X pins σ Q) X.xe s
theorem Vals.one:∀ {x:V}{us:List Value},Vals [x] us→∃ u,us=[u]∧RelV x u
 | _,_,.cons r .nil=>⟨_,rfl,r⟩
theorem Vals.zero:∀ {us:List Value},Vals [] us→us=[]
 | _,.nil=>rfl
theorem Vals.reverse {xs:List V}{us:List Value} (h:Vals xs us):Vals xs.reverse us.reverse:=by
 induction h with
 | nil=>exact .nil
 | cons r t ih=>rw [List.reverse_cons,List.reverse_cons];exact Vals.append ih (.cons r .nil)
section
variable {X:Cx}{pins:List (Addr × Obj)}{σ:St}{H:Hp}{s:Shared}{l b:Addr}{xs ys zs:List V}
theorem Inv.ajU {its its':List Value}{n:Nat}{f:Array Value→Array Value}{t':Nat} (I:Inv X pins σ H s) (hH:H l=some (.lst xs))
   (e:s.heap.get? l=some { cls:=.type "list",data:=.seq its.toArray n }) (hf:f its.toArray=its'.toArray) (hv:Vals ys its') (hz:ys.length≤sizeLine) :
   Inv X pins σ (upd H l (.lst ys)) { s with heap:=s.heap.update l (Obj.mapSeq f),toks:=t' }:=by
 have q:=PySem.IsL.update e f
 rw [hf] at q
 refine I.write (x:=l) (e:=l) (by rw [hH];exact trivial) (.inl rfl) (fun b' u hb hu=>(Heap.get?_update_other s.heap (Obj.mapSeq f) (Ne.symm hb)).trans hu) ⟨_,q⟩ ?_
 exact⟨hz,its',_,hv,q⟩
theorem Inv.ajV {its:List Value}{t':Nat} (I:Inv X pins σ H s) (hv:Vals ys its) (hz:ys.length≤sizeLine) :
   Inv X pins σ (upd H s.heap.objs.size (.lst ys)) { s with heap:=s.heap.push { cls:=.type "list",data:=.seq its.toArray },toks:=t' } :=
 I.laid (fun _ _ q=>Heap.get?_push_of_some _ q) (Nat.le_refl _) ⟨hz,its,0,hv,Heap.get?_push_size _ rfl⟩
theorem Inv.fresh (I:Inv X pins σ H s):H s.heap.objs.size=none:=I.hok.fresh (Nat.le_refl _)
theorem Inv.Vk (I:Inv X pins σ H s) (hH:H l=some (.lst xs)):xs.length≤sizeLine∧∃ (its:List Value) (n:Nat),Vals xs its∧xs.length=its.length∧s.heap.get? l=some { cls:=.type "list",data:=.seq its.toArray n }:=by
 obtain⟨z,its,n,r,e⟩:=I.hok l _ hH
 exact⟨z,its,n,r,r.length,e⟩
end
section
variable {X:Cx}
def Ry:V→List V→Hp→VK→Prop:=fun x vs H Q=>∃ l xs y,x=.ref l∧vs=[y]∧H l=some (.lst xs)∧xs.length<sizeLine∧Q .non (upd H l (.lst (xs++[y])))
theorem iw:MtM X "list.append" Ry:=by
 intro pins s σ H x vs v us Q I rx rv h
 obtain⟨l,xs,y,rfl,rfl,hH,hz,q⟩:=h
 cases rx
 obtain⟨u,rfl,ru⟩:=rv.one
 obtain⟨z,its,n,r,hl,e⟩:=I.Vk hH
 refine call_meets F.slot_list_append ⟨_,e,rfl⟩ F.entry_list_append (F.args_list_append_2 _ _) (PySem.list_append l its.toArray n u (by rw [List.size_toArray];omega)) ⟨e,?_⟩
 refine⟨.non,_,I.ajU (its':=its++[u]) hH e (by simp) (r.append (.cons ru .nil)) ?_,rfl,q⟩
 rw [List.length_append,List.length_singleton]
 omega
def ajW:R2:=fun x y H Q=>∃ l b xs zs,x=.ref l∧y=.ref b∧H l=some (.lst xs)∧H b=some (.lst zs)∧xs.length+zs.length≤sizeLine∧∀ p,H p=none→Q (.ref p) (upd H p (.lst (xs++zs)))
theorem Dc:jb X (binaryOp .Add) ajW:=by
 intro pins s σ H x y v u Q I rx ry h
 obtain⟨l,b,xs,zs,rfl,rfl,hH,hB,hz,q⟩:=h
 cases rx
 cases ry
 obtain⟨z,its,n,r,hl,e⟩:=I.Vk hH
 obtain⟨z2,its2,n2,r2,hl2,e2⟩:=I.Vk hB
 refine PySem.P.add_list e e2 ?_ (by rw [List.size_toArray,List.size_toArray];omega)
 have ea:its.toArray++its2.toArray=(its++its2).toArray:=by simp
 rw [ea]
 exact⟨.ref _,_,I.ajV (t':=s.toks) (r.append r2) (by rw [List.length_append];omega),rfl,q _ I.fresh⟩
end
section
variable {prog:Program}{w:World}{A:Around}{E:Value→Shared→Prop}{s:Shared}
end
section
variable {X:Cx}
end
end L2
namespace Att
open PySem PySem.W PySem.Calls PyProof.Rows
theorem vY {P:Params}{h:Heap}:∀ (ns:List Int) (vs:List Value),WellAll P h vs (ns.map WData.int)→IntsAre vs ns:=by
 intro ns
 induction ns with
 | nil =>
   intro vs w
   rw [List.map_nil] at w
   cases w
   exact .nil
 | cons n ns ih =>
   intro vs w
   rw [List.map_cons] at w
   cases w with
   | cons a b =>
     cases a
     exact .cons _ _ (ih _ b)
theorem LR {l:OpenLaw}{n:Nat} (hn:l.most=some n) {P:Params}{h:Heap}{args:List WData}{vals:List Value}
   (hpre:l.row.toRowW.claim.pre args=true) (hwl:WellAll P h vals args) :
   ∃ a vs ns,vals=[Value.ref a]∧args=[WData.list (ns.map WData.int)]∧h.get? a=some { cls:=.type "list",data:=.seq vs.toArray }∧IntsAre vs ns∧ns.length≤n:=by
 have hsh:WShape.hasAll [] args [.list .int]=true:=(pre_splitW hpre).1
 have hc:l.pre.holds [] { args:=args } = true:=(pre_splitW hpre).2
 obtain⟨d,r,rfl,h1,h2⟩:=hasAllW_cons hsh
 obtain rfl:=hasAllW_nil h2
 obtain⟨xs,rfl,h3⟩:=hasW_list h1
 obtain⟨ns,rfl⟩:=items_int h3
 have hlen:ns.length≤n:=by
   unfold OpenLaw.pre at hc
   have h4:(WTm.not (.lt (.lit (.int (n:Int))) (.len (.arg 0)))).holds [] { args:=[.list (ns.map .int)] } = true:=by
     have h4:=(holds_andW hc).1
     rw [hn] at h4
     exact h4
   have h5:=condW_of h4 (w_not (w_lt w_lit (w_len_list (w_arg rfl))))
   rw [List.length_map] at h5
   refine Nat.le_of_not_lt fun q=>?_
   have q':(n:Int)<((ns.length:Nat):Int):=by omega
   first
     | (rw [decide_eq_true q'] at h5;exact absurd h5 (by decide))
     | (simp at h5;omega)
 cases hwl with
 | cons w1 w2 =>
   cases w2
   cases w1 with
   | list ho hall=>exact⟨_,_,ns,rfl,rfl,ho,vY ns _ hall,hlen⟩
theorem Ma (l:OpenLaw) (args:List WData):l.row.toRowW.claim.post args (.bool true) args=true :=
 postW_of (r:=l.row.toRowW) (X:=(true == true))
   (show WShape.has [] (.bool true) .bool=true by first | rfl | decide | simp [WShape.has,WShape.arms,WShape.armsAll])
   (show (WTm.eq .res (.lit (.bool true))).value [] { args:=args,res:=some (.bool true),after:=args } = some (.bool (true == true)) from w_eq_bool (w_res rfl) w_lit) rfl
section
variable {prog:Program}{w:World}{A:Around}{E:Value→Shared→Prop}{s:Shared}{K:Frag}
end
end Att
namespace L2
open PySem PySem.Spec PyProof.Rows
theorem BR:∀ {vs:List Value}{ns:List Int},IntsAre vs ns→Vals (ns.map V.int) vs
 | _,_,.nil=>.nil
 | _,_,.cons n t h=>.cons ⟨t,rfl⟩ (BR h)
end L2
namespace L2
open PySem PySem.Spec PyProof.Rows
abbrev KOf {K:PySem.W.Frag}{h:Heap} (_:K.In h):PySem.W.Frag:=K
end L2
namespace L2
open PySem PySem.Spec PyProof.Rows
def inClass (s:Stmt) (j:Nat):Stmt:=match s with
 | .ClassDef _ _ _ body _ _ _ _ _ _ _=>body.getD j (.Pass ⟨0,0,0,0⟩)
 | _=>.Pass ⟨0,0,0,0⟩
def ak (s:Stmt):Arguments:=match s with
 | .FunctionDef _ a _ _ _ _ _ _ _ _=>a
 | _=>{ posonlyargs:=[],args:=[],vararg:=none,kwonlyargs:=[],kw_defaults:=[],kwarg:=none,defaults:=[] }
def aj (s:Stmt):List Stmt:=match s with
 | .FunctionDef _ _ b _ _ _ _ _ _ _=>b
 | _=>[]
def aa (s:Stmt):Scope:=match s with
 | .FunctionDef _ _ _ _ _ _ sc _ _ _=>sc
 | _=>{ kind:=.function,names:=[],isGenerator:=false,isCoroutine:=false }
abbrev b8:Al:=fun _ _ _ _ _ _=>False
abbrev E0:XK:=fun _ _ _=>False
theorem zT {X:Cx}:Passes b8 X E0:=fun _ _ _ _ _ _ _ h=>h.elim
structure fX (K:PySem.W.Frag) (x qual:Str) (st:Stmt) (f:Addr) (fd:FuncData):Prop where
 ex:∃ (oc:Value) (od:Option Addr) (kV doc pm:Value) (an:Option Addr) (cdv ct:Value) (osl:Array (Option Value)),
   fd=PySem.W.fnOf x qual (ak st) (aj st) (aa st) .none kV doc pm an cdv ct∧K.lookup f=some ⟨oc,od,.func fd,osl⟩∧PySem.W.codeIn K cdv qual=true
 kp:PySem.W.keepIn K (.ref f)=true
section
variable {P:Program}{w:World}{K:PySem.W.Frag}{mg:Str→Option Value}{base:Heap}
theorem fX.ok {x qual:Str}{st:Stmt}{f:Addr}{fd:FuncData}{N ps:List Str}{k:Nat}{sp:Sp} (F:fX K x qual st f fd) (S:az N ps (aa st)) (len:∀ vs H Q E,sp vs H Q E→vs.length=ps.length)
   (hbody:∀ (cdv:Value) (A:Around) (outer:List Env) (s:Shared) (H:Hp) (vs:List V) (Q:VK) (E:XK),dO k (A.deeper (envOfC qual (aa st) s.heap.objs.size f cdv))→sp vs H Q E →
     ∃ t,nU (Fe b8 P w K mg base N qual (aa st) f cdv A outer s H E).Aj (aj st) t∧t { nx:=fun _ H'=>Q .non H',rt:=Q } (start N vs) H):bw P w K mg base b8 (k+1) f fd ps sp:=by
 obtain⟨oc,od,kV,doc,pm,an,cdv,ct,osl,rfl,lk,hcd⟩:=F.ex
 refine N6 lk hcd S len fun A outer s H vs Q E hr hsp=>?_
 obtain⟨t,h,q⟩:=hbody cdv A outer s H vs Q E hr hsp
 exact⟨t,h.Aj,q⟩
theorem fX.binds {x qual:Str}{st:Stmt}{f:Addr}{fd:FuncData}{ps:List Str} (F:fX K x qual st f fd)
   (h:∀ (kV doc pm:Value) (an:Option Addr) (cdv ct:Value) (us:List Value),us.length=ps.length→bindArgs (PySem.W.fnOf x qual (ak st) (aj st) (aa st) .none kV doc pm an cdv ct) ⟨us,[]⟩=pure (ps.zip us)):Binds K fd ps []:=by
 obtain⟨oc,od,kV,doc,pm,an,cdv,ct,osl,rfl,lk,hcd⟩:=F.ex
 exact .all (h kV doc pm an cdv ct)
theorem ao {x qual:Str}{st:Stmt}{f:Addr}{oc:Value}{od an:Option Addr}{osl:Array (Option Value)}{kV doc pm cdv ct:Value} (l:K.lookup f=some ⟨oc,od,.func (PySem.W.fnOf x qual (ak st) (aj st) (aa st) .none kV doc pm an cdv ct),osl⟩)
   (c:PySem.W.codeIn K cdv qual=true) (k:PySem.W.keepIn K (.ref f)=true):fX K x qual st f (PySem.W.fnOf x qual (ak st) (aj st) (aa st) .none kV doc pm an cdv ct):=⟨⟨oc,od,kV,doc,pm,an,cdv,ct,osl,rfl,l,c⟩,k⟩
end
theorem ji {A:Around}{k:Nat} (hr:dO k A):A.units+1<cLine:=Nat.lt_of_le_of_lt (Nat.add_le_add_left (by decide:1≤64) _) hr.units
section
variable {X:Cx}
theorem pv (i:Nat) {x:Str}{pos:Pos} (hN:X.N[i]? = some x:=by rfl) (hv:Vis X.env.scope x:=by first | exact Or.inl rfl | exact Or.inr (Or.inl rfl) | exact Or.inr (Or.inr rfl)) (hd:(x == ("__debug__":Str))=false:=by decide)
   (hcd:(x == ("__classdict__":Str))=false:=by decide):PE X (.Name x pos) (mV i):=U8 hN hv hd hcd
end
theorem aW {A B:Prop} (h:B):if false=true then A else B:=by
 rw [if_neg Bool.false_ne_true]
 exact h
theorem bM {A B:Prop} (h:A):if true=true then A else B:=by
 rw [if_pos rfl]
 exact h
theorem mW {c A B:Prop} [Decidable c] (h1:c→A) (h2:¬ c→B):if c then A else B:=by
 by_cases h:c
 · rw [if_pos h]
   exact h1 h
 · rw [if_neg h]
   exact h2 h
def aB (H H':Hp):Prop:=∀ b o,H b=some o→H' b=some o
theorem aB.refl (H:Hp):aB H H:=fun _ _ h=>h
theorem aB.trans {H H1 H2:Hp} (a:aB H H1) (b:aB H1 H2):aB H H2:=fun c o h=>b c o (a c o h)
theorem aB.free {H H':Hp} (e:aB H H') {l:Addr} (h:H' l=Option.none):H l=Option.none:=by
 cases q:H l with
 | none=>rfl
 | some o =>
   rw [e l o q] at h
   cases h
theorem aB.seq {K:PySem.W.Frag}{H H':Hp}{a:Addr}{xs:List V} (e:aB H H') (h:b7 K H a xs):b7 K H' a xs:=by
 rcases h with (h | ⟨o,h⟩) | h
 · exact .inl (.inl (e _ _ h))
 · exact .inl (.inr ⟨o,e _ _ h⟩)
 · exact .inr h
end L2
namespace L2
open PySem PySem.Spec PyProof.Rows
section
variable {κ:Type} [DecidableEq κ]
def dq (kvs:List (κ × V)) (k:κ):Option V:=(kvs.find? fun kv=>decide (kv.1=k)).map (·.2)
def putK (kvs:List (κ × V)) (k:κ) (v:V):List (κ × V) :=
 if (kvs.any fun kv=>decide (kv.1=k))=true then kvs.map (fun kv=>if kv.1=k then (kv.1,v) else kv) else kvs++[(k,v)]
def TF (kvs:List (κ × V)) (k:κ):List (κ × V):=kvs.filter fun kv=>decide (kv.1≠k)
theorem xH {p:κ × V}{r:List (κ × V)}{k:κ} (e:p.1=k):dq (p::r) k=some p.2:=by simp [dq,List.find?_cons,e]
theorem xI {p:κ × V}{r:List (κ × V)}{k:κ} (e:¬ p.1=k):dq (p::r) k=dq r k:=by simp [dq,List.find?_cons,e]
theorem sO (k:κ):∀ kvs:List (κ × V),(kvs.any fun kv=>decide (kv.1=k))=(dq kvs k).isSome
 | []=>rfl
 | p::r=>by
   rw [List.any_cons]
   by_cases e:p.1=k
   · simp only [xH e,decide_eq_true e,Bool.true_or,Option.isSome_some]
   · rw [xI e,decide_eq_false e,Bool.false_or];exact sO k r
theorem Fj (k j:κ) (y:V):∀ kvs:List (κ × V),dq (kvs.map fun kv=>if kv.1=k then (kv.1,y) else kv) j=(dq kvs j).map fun x=>if j=k then y else x
 | []=>rfl
 | p::r=>by
   have ih:=Fj k j y r
   rw [List.map_cons]
   by_cases h:p.1=k
   · rw [if_pos h]
     by_cases e:p.1=j
     · rw [xH (p:=(p.1,y)) e,xH e,Option.map_some,if_pos (e.symm.trans h)]
     · rw [xI (p:=(p.1,y)) e,xI e,ih]
   · rw [if_neg h]
     by_cases e:p.1=j
     · rw [xH (p:=p) e,xH e,Option.map_some,if_neg (fun z=>h (e.trans z))]
     · rw [xI (p:=p) e,xI e,ih]
theorem BV (k j:κ) (y:V):∀ kvs:List (κ × V),dq kvs k=none→dq (kvs++[(k,y)]) j=if j=k then some y else dq kvs j
 | [],_=>by
   by_cases e:k=j
   · rw [if_pos e.symm];exact xH (p:=(k,y)) e
   · rw [if_neg (fun z=>e z.symm)];exact xI (p:=(k,y)) e
 | p::r,hn=>by
   rw [List.cons_append]
   have hk:¬ p.1=k:=fun z=>by rw [xH z] at hn;cases hn
   rw [xI hk] at hn
   have ih:=BV k j y r hn
   by_cases e:p.1=j
   · rw [xH e,xH e,if_neg (fun z=>hk (e.trans z))]
   · rw [xI e,xI e,ih]
theorem xQ (kvs:List (κ × V)) (k j:κ) (y:V):dq (putK kvs k y) j=if j=k then some y else dq kvs j:=by
 unfold putK
 by_cases a:(kvs.any fun kv=>decide (kv.1=k))=true
 · rw [if_pos a,Fj]
   rw [sO] at a
   by_cases e:j=k
   · obtain⟨x,hx⟩:=Option.isSome_iff_exists.mp a
     rw [if_pos e,e,hx,Option.map_some,if_pos rfl]
   · rw [if_neg e]
     cases dq kvs j with
     | none=>rfl
     | some x=>rw [Option.map_some,if_neg e]
 · rw [if_neg a]
   refine BV k j y kvs ?_
   rw [sO] at a
   cases q:dq kvs k with
   | none=>rfl
   | some x=>rw [q] at a;exact (a rfl).elim
theorem xF (kvs:List (κ × V)) (k:κ) (v:V):(putK kvs k v).length≤kvs.length+1:=by
 unfold putK
 split
 · rw [List.length_map];omega
 · rw [List.length_append,List.length_cons,List.length_nil];omega
theorem oF.mX {o:Option V}{u:Option Value} (r:oF o u):o.isSome=u.isSome:=by
 cases o with
 | none=>cases u with
   | none=>rfl
   | some _=>exact (show False from r).elim
 | some _=>cases u with
   | none=>exact (show False from r).elim
   | some _=>rfl
theorem oF.getD {o:Option V}{u:Option Value}{d:V}{d':Value} (r:oF o u) (rd:RelV d d'):RelV (o.getD d) (u.getD d'):=by
 cases o with
 | none=>cases u with
   | none=>exact rd
   | some _=>exact (show False from r).elim
 | some _=>cases u with
   | none=>exact (show False from r).elim
   | some _=>exact r
theorem KV.val {kvs:List (κ × V)}{vs:List (κ × Value)} (r:KV kvs vs) (k:κ):oF (dq kvs k) (valueAt vs k):=by
 unfold KV at r
 induction r with
 | nil=>exact True.intro
 | @cons p q ps qs h t ih =>
   obtain⟨h1,h2⟩:=h
   by_cases e:p.1=k
   · have e':q.1=k:=h1.symm.trans e
     have b:valueAt (q::qs) k=some q.2:=by simp [valueAt,List.find?_cons,e']
     rw [xH e,b];exact h2
   · have e':¬ q.1=k:=fun z=>e (h1.trans z)
     have b:valueAt (q::qs) k=valueAt qs k:=by simp [valueAt,List.find?_cons,e']
     rw [xI e,b];exact ih
theorem KV.any {kvs:List (κ × V)}{vs:List (κ × Value)} (r:KV kvs vs) (k:κ):(kvs.any fun kv=>decide (kv.1=k))=vs.any fun kv=>decide (kv.1=k):=by
 unfold KV at r
 induction r with
 | nil=>rfl
 | cons h t ih=>rw [List.any_cons,List.any_cons,ih,h.1]
theorem KV.repl {kvs:List (κ × V)}{vs:List (κ × Value)} (r:KV kvs vs) (k:κ) {y:V}{u:Value} (ry:RelV y u) :
   KV (kvs.map fun kv=>if kv.1=k then (kv.1,y) else kv) (vs.map fun kv=>if kv.1=k then (kv.1,u) else kv):=by
 unfold KV at r ⊢
 induction r with
 | nil=>exact .nil
 | @cons p q ps qs h t ih =>
   rw [List.map_cons,List.map_cons]
   refine .cons ?_ ih
   obtain⟨h1,h2⟩:=h
   by_cases e:p.1=k
   · rw [if_pos e,if_pos (h1.symm.trans e)];exact⟨h1,ry⟩
   · rw [if_neg e,if_neg (fun z=>e (h1.trans z))];exact⟨h1,h2⟩
theorem KV.put {kvs:List (κ × V)}{vs:List (κ × Value)} (r:KV kvs vs) (k:κ) {y:V}{u:Value} (ry:RelV y u):KV (putK kvs k y) (stored vs k u):=by
 unfold putK stored
 rw [r.any k]
 by_cases e:(vs.any fun kv=>decide (kv.1=k))=true
 · rw [if_pos e,if_pos e];exact r.repl k ry
 · rw [if_neg e,if_neg e];exact Paired.snoc r ⟨rfl,ry⟩
theorem KV.drop {kvs:List (κ × V)}{vs:List (κ × Value)} (r:KV kvs vs) (k:κ):KV (TF kvs k) (without vs k):=by
 unfold KV at r ⊢
 unfold TF without
 induction r with
 | nil=>exact .nil
 | @cons p q ps qs h t ih =>
   obtain⟨h1,h2⟩:=h
   rw [List.filter_cons,List.filter_cons]
   by_cases e:p.1=k
   · have a:¬ decide (p.1≠k)=true:=by simp [e]
     have b:¬ decide (q.1≠k)=true:=by simp [h1.symm.trans e]
     rw [if_neg a,if_neg b];exact ih
   · have e':¬ q.1=k:=fun z=>e (h1.trans z)
     have a:decide (p.1≠k)=true:=by simp [e]
     have b:decide (q.1≠k)=true:=by simp [e']
     rw [if_pos a,if_pos b];exact .cons ⟨h1,h2⟩ ih
theorem KV.keys {kvs:List (κ × V)}{vs:List (κ × Value)} (r:KV kvs vs):kvs.map (·.1)=vs.map (·.1):=by
 unfold KV at r
 induction r with
 | nil=>rfl
 | cons h t ih=>rw [List.map_cons,List.map_cons,ih,h.1]
theorem KV.length {kvs:List (κ × V)}{vs:List (κ × Value)} (r:KV kvs vs):kvs.length=vs.length:=Paired.length r
end
theorem xj {P:Program}{w:World}{k:Key}{u:Value} (r:RelV (kV k) u):(cO P w).is k u=true:=by
 cases k with
 | inl i=>obtain⟨t,e⟩:=(show ∃ t,u=Value.int i t from r);subst e;exact Ew P w i t
 | inr x=>obtain⟨t,e⟩:=(show ∃ t,u=Value.str x t from r);subst e;exact Ex P w x t
theorem BW {P:Program}{w:World}:∀ {ks:List Key}{us:List Value},Vals (ks.map kV) us→ItemsAre (cO P w) ks us
 | [],_,r=>by rw [List.map_nil] at r;cases r;exact .nil
 | k::ks,_,r=>by
   rw [List.map_cons] at r
   cases r with
   | cons h t=>exact .cons (xj h) (BW t)
abbrev KT (H:Hp):List (List Key × V)→List (List Key × Addr × Value)→Prop:=Paired fun p q=>p.1=q.1∧H q.2.1=some (.tup (p.1.map kV))∧RelV p.2 q.2.2
theorem KT.val {H:Hp}{kvs:List (List Key × V)}{xs:List (List Key × Addr × Value)} (r:KT H kvs xs) (k:List Key):oF (dq kvs k) ((atKey xs k).map (·.2)):=by
 induction r with
 | nil=>exact True.intro
 | @cons p q ps qs h t ih =>
   obtain⟨h1,_,h2⟩:=h
   by_cases e:p.1=k
   · have e':q.1=k:=h1.symm.trans e
     have b:atKey (q::qs) k=some q.2:=by simp [atKey,List.find?_cons,e']
     rw [xH e,b];exact h2
   · have e':¬ q.1=k:=fun z=>e (h1.trans z)
     have b:atKey (q::qs) k=atKey qs k:=by simp [atKey,List.find?_cons,e']
     rw [xI e,b];exact ih
theorem KT.repl {H:Hp}{kvs:List (List Key × V)}{xs:List (List Key × Addr × Value)} (r:KT H kvs xs) (k:List Key) {y:V}{u:Value} (ry:RelV y u) :
   KT H (kvs.map fun kv=>if kv.1=k then (kv.1,y) else kv) (xs.map (putAt k u)):=by
 induction r with
 | nil=>exact .nil
 | @cons p q ps qs h t ih =>
   rw [List.map_cons,List.map_cons]
   refine .cons ?_ ih
   obtain⟨h1,h2,h3⟩:=h
   unfold putAt
   by_cases e:p.1=k
   · rw [if_pos e,if_pos (h1.symm.trans e)];exact⟨h1,h2,ry⟩
   · rw [if_neg e,if_neg (fun z=>e (h1.trans z))];exact⟨h1,h2,h3⟩
theorem KT.put {H:Hp}{kvs:List (List Key × V)}{xs:List (List Key × Addr × Value)} (r:KT H kvs xs) (k:List Key) {b:Addr}{y:V}{u:Value} (hb:H b=some (.tup (k.map kV))) (ry:RelV y u) :
   KT H (putK kvs k y) (storedH xs k b u):=by
 have e:(kvs.any fun kv=>decide (kv.1=k))=(atKey xs k).isSome:=by
   rw [sO,(r.val k).mX,Option.isSome_map]
 unfold putK storedH
 rw [e]
 by_cases q:(atKey xs k).isSome=true
 · rw [if_pos q,if_pos q];exact r.repl k ry
 · rw [if_neg q,if_neg q];exact Paired.snoc r ⟨rfl,hb,ry⟩
theorem KT.keeps {H H':Hp}{kvs:List (List Key × V)}{xs:List (List Key × Addr × Value)} (r:KT H kvs xs) (ht:∀ b ys,H b=some (.tup ys)→H' b=some (.tup ys)):KT H' kvs xs :=
 Paired.Q9 r fun _ _ z=>⟨z.1,ht _ _ z.2.1,z.2.2⟩
section
variable {P:Program}{w:World}{H:Hp}{h:Heap}{a:Addr}
theorem TJ {u:HO} (ok:pZ P w H h) (e:Rd H a u):cu P w H h a u:=e.ok ok
theorem vG {kvs:List (Key × V)} (ok:pZ P w H h) (e:Rd H a (.dK kvs)):kvs.length≤sizeLine∧(a == sysModules)=false∧∃ vs,KV kvs vs∧h.DictOf (cO P w) a vs :=
 show cu P w H h a (.dK kvs) from TJ ok e
theorem ZQ {kvs:List (Key × V)} (ok:pZ P w H h) (e:H a=some (.dK kvs)):kvs.length≤sizeLine∧(a == sysModules)=false∧∃ vs,KV kvs vs∧h.DictOf (cO P w) a vs:=vG ok (.inl e)
theorem oU {ks:List Key} (ok:pZ P w H h) (e:H a=some (.tup (ks.map kV))):(tupleKind (cO P w)).is h ks a:=by
 obtain⟨_,its,r,o,h1,h2,n,h3⟩:=(show cu P w H h a (.tup (ks.map kV)) from ok a _ e)
 exact⟨o,its.toArray,n,h1,h2,h3,by simpa using BW r⟩
theorem vH {kvs:List (List Key × V)} (ok:pZ P w H h) (e:Rd H a (.dT kvs)):kvs.length≤sizeLine∧(a == sysModules)=false ∧
   ∃ xs,KT H kvs xs∧h.DictOfH (tupleKind (cO P w)) a xs:=by
 obtain⟨z,y,xs,r,o,es,ep,h1,h2,h3,h4,h5⟩:=(show cu P w H h a (.dT kvs) from TJ ok e)
 refine⟨z,y,xs,r,o,es,ep,h1,h2,h3,h4,fun x hx=>?_,h5⟩
 have all:∀ {l:List (List Key × V)}{m:List (List Key × Addr × Value)},KT H l m→∀ x∈m,(tupleKind (cO P w)).is h x.1 x.2.1:=by
   intro l m q
   induction q with
   | nil=>intro x hx;exact nomatch hx
   | @cons p q ps qs hq t ih =>
     intro x hx
     rcases List.mem_cons.mp hx with e | hx
     · subst e
       exact oU ok (by rw [← hq.1];exact hq.2.1)
     · exact ih x hx
 exact all r x hx
theorem TQ {kvs:List (List Key × V)} (ok:pZ P w H h) (e:H a=some (.dT kvs)):kvs.length≤sizeLine∧(a == sysModules)=false ∧
   ∃ xs,KT H kvs xs∧h.DictOfH (tupleKind (cO P w)) a xs:=vH ok (.inl e)
end
def il (H:Hp) (a:Addr) (y:V) (r:Option V):Prop :=
 (∃ kvs k,Rd H a (.dK kvs)∧y=kV k∧r=dq kvs k)∨∃ kvs k b,Rd H a (.dT kvs)∧y=.ref b∧H b=some (.tup (k.map kV))∧r=dq kvs k
def Aq (H:Hp) (a:Addr) (y v:V) (H':Hp):Prop :=
 (∃ kvs k,H a=some (.dK kvs)∧y=kV k∧kvs.length<sizeLine∧H'=upd H a (.dK (putK kvs k v))) ∨
 ∃ kvs k b,H a=some (.dT kvs)∧y=.ref b∧H b=some (.tup (k.map kV))∧kvs.length<sizeLine∧H'=upd H a (.dT (putK kvs k v))
theorem il.k {H:Hp}{a:Addr}{kvs:List (Key × V)}{k:Key} (e:H a=some (.dK kvs)):il H a (kV k) (dq kvs k):=.inl ⟨kvs,k,.inl e,rfl,rfl⟩
theorem il.t {H:Hp}{a b:Addr}{kvs:List (List Key × V)}{k:List Key} (e:H a=some (.dT kvs)) (eb:H b=some (.tup (k.map kV))):il H a (.ref b) (dq kvs k):=.inr ⟨kvs,k,b,.inl e,rfl,eb,rfl⟩
theorem Aq.k {H:Hp}{a:Addr}{kvs:List (Key × V)}{k:Key}{v:V} (e:H a=some (.dK kvs)) (hl:kvs.length<sizeLine):Aq H a (kV k) v (upd H a (.dK (putK kvs k v))):=.inl ⟨kvs,k,e,rfl,hl,rfl⟩
theorem Aq.t {H:Hp}{a b:Addr}{kvs:List (List Key × V)}{k:List Key}{v:V} (e:H a=some (.dT kvs)) (eb:H b=some (.tup (k.map kV))) (hl:kvs.length<sizeLine) :
   Aq H a (.ref b) v (upd H a (.dT (putK kvs k v))):=.inr ⟨kvs,k,b,e,rfl,eb,hl,rfl⟩
section
variable {X:Cx}{pins:List (Addr × Obj)}{σ:St}{H:Hp}{s:Shared}{a:Addr}{y v:V}{u r:Value}{o:Option V}{A:Around}{E:Value→Shared→Prop}
theorem Inv.big (I:Inv X pins σ H s):sysModules<s.heap.objs.size:=by
 have h:mainGlobals<s.heap.objs.size:=(I.mod.glob.keeps I.bk).lt
 exact Nat.lt_trans (by decide) h
theorem Mf {Q:Value→Shared→Prop} (hu:A.units+1<cLine) (I:Inv X pins σ H s) (g:il H a y (some v)) (ry:RelV y u) (h:∀ w' s',Inv X pins σ H s'→RelV v w'→Q w' s') :
   wpAny (model X.prog X.w) A (getItem (.ref a) u) Q E s:=by
 rcases g with ⟨kvs,k,e,ey,l⟩ | ⟨kvs,k,b,e,ey,eb,l⟩
 · subst ey
   obtain⟨z,hd,vs,rel,dd⟩:=vG I.hok e
   obtain⟨w',hw,LQ⟩:=oF.some_of (v:=v) (o:=valueAt vs k) (by rw [l];exact rel.val k)
   exact wpAny_getItem_of (xj ry) dd.mapOf hw (h w' _ (I.tok _) LQ)
 · subst ey
   cases (show u=Value.ref b from ry)
   obtain⟨z,hd,xs,rel,dd⟩:=vH I.hok e
   obtain⟨w',hw,LQ⟩:=oF.some_of (v:=v) (o:=(atKey xs k).map (·.2)) (by rw [l];exact rel.val k)
   obtain⟨p,hp,hp2⟩:=Option.map_eq_some_iff.mp hw
   refine wpAny_getItem_heap (tupleKind_room_in1 hu) (oU I.hok eb) dd hp ?_
   rw [hp2]
   exact h w' _ (I.tok _) LQ
theorem ajX {Q:Value→Shared→Prop} (hu:A.units+1<cLine) (I:Inv X pins σ H s) (g:il H a y o) (ry:RelV y u) (h:∀ s',Inv X pins σ H s'→Q (.bool o.isSome) s') :
   wpAny (model X.prog X.w) A (compareOp .In u (.ref a)) Q E s:=by
 rcases g with ⟨kvs,k,e,ey,l⟩ | ⟨kvs,k,b,e,ey,eb,l⟩
 · subst ey
   obtain⟨z,hd,vs,rel,dd⟩:=vG I.hok e
   refine wpAny_in_of (xj ry) hd dd.mapOf ?_
   rw [← (rel.val k).mX,← l]
   exact h _ (I.tok _)
 · subst ey
   cases (show u=Value.ref b from ry)
   obtain⟨z,hd,xs,rel,dd⟩:=vH I.hok e
   refine wpAny_in_heap (tupleKind_room_in1 hu) (oU I.hok eb) hd dd ?_
   have q:=(rel.val k).mX
   rw [Option.isSome_map] at q
   rw [← q,← l]
   exact h _ (I.tok _)
theorem Rz {Q:Value→Shared→Prop} (hu:A.units+1<cLine) (I:Inv X pins σ H s) (g:il H a y o) (ry:RelV y u) (h:∀ s',Inv X pins σ H s'→Q (.bool (!o.isSome)) s') :
   wpAny (model X.prog X.w) A (compareOp .NotIn u (.ref a)) Q E s:=by
 rcases g with ⟨kvs,k,e,ey,l⟩ | ⟨kvs,k,b,e,ey,eb,l⟩
 · subst ey
   obtain⟨z,hd,vs,rel,dd⟩:=vG I.hok e
   refine wpAny_notIn_of (xj ry) hd dd.mapOf ?_
   rw [← (rel.val k).mX,← l]
   exact h _ (I.tok _)
 · subst ey
   cases (show u=Value.ref b from ry)
   obtain⟨z,hd,xs,rel,dd⟩:=vH I.hok e
   refine wpAny_notIn_heap (tupleKind_room_in1 hu) (oU I.hok eb) hd dd ?_
   have q:=(rel.val k).mX
   rw [Option.isSome_map] at q
   rw [← q,← l]
   exact h _ (I.tok _)
theorem Dd {h':Heap}{t':Nat}{ob:HO} (I:Inv X pins σ H s) (mu:Zi (H a)) (hs:Heap.SameBut a s.heap h') (he:∃ q,h'.get? a=some q) (new:cu X.prog X.w (upd H a ob) h' a ob) :
   Inv X pins σ (upd H a ob) { s with heap:=h',toks:=t' } :=
 I.write (x:=a) (e:=a) mu (.inl rfl) (fun b q hb z=>(hs.2 b hb).trans z) he new
theorem Vl {P:Program}{w:World}{H':Hp}{h':Heap}{kvs:List (Key × V)}{vs:List (Key × Value)} (z:kvs.length≤sizeLine) (hd:(a == sysModules)=false) (rel:KV kvs vs) (dd:h'.DictOf (cO P w) a vs) :
   cu P w H' h' a (.dK kvs):=⟨z,hd,vs,rel,dd⟩
theorem Mg {H':Hp}{Q:Unit→Shared→Prop} (hu:A.units+1<cLine) (I:Inv X pins σ H s) (g:Aq H a y v H') (ry:RelV y u) (rv:RelV v r) (h:∀ s',Inv X pins σ H' s'→Q () s') :
   wpAny (model X.prog X.w) A (setItem (.ref a) u r) Q E s:=by
 rcases g with ⟨kvs,k,e,ey,l,eH⟩ | ⟨kvs,k,b,e,ey,eb,l,eH⟩
 · subst ey eH
   obtain⟨z,hd,vs,rel,dd⟩:=ZQ I.hok e
   have hz:vs.length≤sizeLine:=by rw [← rel.length];exact z
   have hl:(putK kvs k v).length≤sizeLine:=by have:=xF kvs k v;omega
   refine wpAny_setItem_pairs (hsz:=hz) (xj ry) dd fun h' Yo hs=>h _ ?_
   have he:∃ q,h'.get? a=some q:=let ⟨q,_,_,hq,_⟩:=Yo; ⟨q,hq⟩
   exact Dd I (by rw [e];exact True.intro) hs he (Vl hl hd (rel.put k rv) Yo)
 · subst ey eH
   cases (show u=Value.ref b from ry)
   obtain⟨z,hd,xs,rel,dd⟩:=TQ I.hok e
   have hz:xs.length≤sizeLine:=by rw [← Paired.length rel];exact z
   have hl:(putK kvs k v).length≤sizeLine:=by have:=xF kvs k v;omega
   refine wpAny_setItem_heap (hsz:=hz) (tupleKind_room_in1 hu) (oU I.hok eb) dd fun h' Yo hs=>h _ ?_
   obtain⟨q,es,ep,hq,h2,h3,h4,_,h5⟩:=Yo
   refine Dd I (by rw [e];exact True.intro) hs ⟨q,hq⟩ ⟨hl,hd,_,(rel.put k eb rv).keeps fun c ys ec=>?_,q,es,ep,hq,h2,h3,h4,h5⟩
   rw [zI (yP ec e (fun z=>nomatch z))]
   exact ec
end
section
variable {X:Cx}{pins:List (Addr × Obj)}{σ:St}{H:Hp}{s:Shared}{a:Addr}{kvs:List (Key × V)}{k:Key}{u:Value}{A:Around}{E:Value→Shared→Prop}
end
def ZR (i:Expr):Prop:=∀ ov iv,subscripted i false ov iv=operate [ov,iv] (getItem ov iv)
theorem RB {prog:Program}{w:World}{A:Around}{E:Value→Shared→Prop}{s:Shared}{env:Env}{value slice:Expr}{pos:Pos}{T id:String}{Q:Value→Shared→Prop}
   (hl:typeLookup (.type T) "__getitem__" = pure (some (.builtin id))) (hs:ZR slice)
   (h:wpAny (model prog w) A (eval value env) (fun o s₁=>wpAny (model prog w) A (eval slice env) (fun i s₂=>s₂.TypeIs o T∧wpAny (model prog w) A (getItem o i) Q E s₂) E s₁) E s) :
   wpAny (model prog w) A (eval (.Subscript value slice pos) env) Q E s:=by
 refine Subscript_ (wpAny_mono h (fun o s₁ h₁=>wpAny_mono h₁ (fun i s₂ h₂=>?_) fun _ _ x=>x) fun _ _ x=>x)
 obtain⟨hT,h₂⟩:=h₂
 unfold subscriptTail
 refine wpAny_bind ?_
 rw [getitemInPython_of_ne hT.not_modules]
 refine wpAny_bind (wpAny_specialOf hT hl ?_)
 have fin:wpAny (model prog w) A (subscripted slice false o i) (fun r s₃=>wpAny (model prog w) A (letTemporaryGo value o r >>= fun _=>pure r) Q E s₃) E s₂:=by
   rw [hs o i]
   exact wpAny_operating (wpAny_mono h₂ (fun r s₃ h₃=>wpAny_bind (wpAny_letTemporaryGo (wpAny_pure h₃))) fun _ _ x=>x)
 first
   | exact wpAny_pure (wpAny_bind fin)
   | exact wpAny_bind (wpAny_pure (wpAny_bind fin))
   | exact wpAny_bind fin
theorem Fl {X:Cx}{pins:List (Addr × Obj)}{σ:St}{H:Hp}{s:Shared}{a:Addr}{y:V}{o:Option V} (I:Inv X pins σ H s) (g:il H a y o):s.TypeIs (.ref a) "dict":=by
 rcases g with ⟨kvs,k,e,_,_⟩ | ⟨kvs,k,b,e,_,_,_⟩
 · obtain⟨_,_,vs,_,dd⟩:=vG I.hok e
   exact dd.typeIs
 · obtain⟨_,_,xs,_,dd⟩:=vH I.hok e
   exact dd.typeIs
def ZS (td ty:TE):TE:=fun σ H Q=>td σ H fun x H1=>ty σ H1 fun y H2=>∃ a v,x=.ref a∧il H2 a y (some v)∧Q v H2
def ZV (td ty tv:TE):TS:=fun D σ H=>tv σ H fun v H1=>td σ H1 fun x H2=>ty σ H2 fun y H3=>∃ a H4,x=.ref a∧Aq H3 a y v H4∧D.nx σ H4
section
variable {X:Cx}{o i e value:Expr}{pos pos' tpos:Pos}{td ty tv:TE}
theorem wQ (hu:X.A.units+1<cLine) (ho:PE X o td) (hi:PE X i ty) (hs:ZR i):PE X (.Subscript o i pos) (ZS td ty):=by
 intro pins s σ H Q I h
 refine RB PySem.F.slot_dict_getitem.lookup hs (dm (ho pins s σ H _ I h) fun u s1 ⟨x,H1,I1,rx,q1⟩=>dm (hi pins s1 σ H1 _ I1 q1) fun iv s2 zq=>?_)
 obtain⟨y,H2,I2,ry,a,v,ex,g,q2⟩:=zq
 subst ex
 obtain rfl:u=Value.ref a:=rx
 exact⟨Fl I2 g,Mf hu I2 g ry fun w' s3 I3 LQ=>⟨v,H2,I3,LQ,q2⟩⟩
theorem wR (hu:X.A.units+1<cLine) (ho:PE X o td) (hi:PE X i ty) (hv:PE X value tv) (hs:swapsWith value (some (.Subscript o i pos')) pos.line X.env=pure false) :
   PS X (.Assign [.Subscript o i pos'] value pos) (ZV td ty tv):=by
 intro pins s σ H D I h
 refine wpAny_Assign_Subscript (dm (hv pins s σ H _ I h) fun r s1 ⟨v,H1,I1,rv,q1⟩=>dm (ho pins s1 σ H1 _ I1 q1) fun u s2 ⟨x,H2,I2,rx,q2⟩=>dm (hi pins s2 σ H2 _ I2 q2) fun iv s3 ⟨y,H3,I3,ry,a,H4,ex,g,q3⟩=>?_) hs
 subst ex
 obtain rfl:u=Value.ref a:=rx
 exact Mg hu I3 g ry rv fun s4 I4=>⟨σ,H4,I4,q3⟩
end
theorem Ob {P:Program}{w:World}{H:Hp} (h:Heap) (hb:sysModules<h.objs.size):cu P w H (h.push { cls:=.type "dict",data:=.dict #[] }) h.objs.size (.dK []) :=
 ⟨Nat.zero_le _,beq_eq_false_iff_ne.mpr (Ne.symm (Nat.ne_of_lt hb)),[],.nil,Heap.DictOf.new h⟩
theorem Oc {P:Program}{w:World}{H:Hp} (h:Heap) (hb:sysModules<h.objs.size):cu P w H (h.push { cls:=.type "dict",data:=.dict #[] }) h.objs.size (.dT []) :=
 ⟨Nat.zero_le _,beq_eq_false_iff_ne.mpr (Ne.symm (Nat.ne_of_lt hb)),[],.nil,_,#[],0,Heap.get?_push_size _ rfl,⟨rfl,rfl,rfl⟩,rfl,rfl,List.nodup_nil⟩
def Vm:TE:=fun _ H Q=>∀ p,H p=none→Q (.ref p) (upd H p (.dK []))
section
variable {X:Cx}{pos:Pos}
theorem oV:PE X (.Dict [] [] pos) Vm:=fun pins s σ H Q I h =>
 wpAny_Dict_empty ⟨.ref s.heap.objs.size,_,I.laid (a:=s.heap.objs.size) (o:=.dK []) (t':=s.toks) (fun _ _ q=>Heap.get?_push_of_some _ q) (Nat.le_refl _) (Ob s.heap I.big),rfl,h _ (I.hok.fresh (Nat.le_refl _))⟩
end
def Iz:List (TE × TE)→St→Hp→(List (V × V)→Hp→Prop)→Prop
 | [],_,H,Q=>Q [] H
 | (tk,tv)::r,σ,H,Q=>tk σ H fun x H1=>tv σ H1 fun y H2=>Iz r σ H2 fun ps H3=>Q ((x,y)::ps) H3
abbrev VV:List (V × V)→List (Value × Value)→Prop:=Paired fun p q=>RelV p.1 q.1∧RelV p.2 q.2
def vZ (X:Cx) (pos:Pos) (keys:List (Option Expr)) (values:List Expr) (RC:List (TE × TE)):Prop :=
 ∀ (pins:List (Addr × Obj)) (s:Shared) (σ:St) (H:Hp) (Q:List (V × V)→Hp→Prop),Inv X pins σ H s→Iz RC σ H Q →
   wpAny (model X.prog X.w) X.A (evalPairs (pairTrees keys values X.env pos)) (fun vs s'=>∃ ps H',Inv X pins σ H' s'∧VV ps vs∧Q ps H') X.xe s
theorem RD {X:Cx}{pos:Pos}:vZ X pos [] [] []:=fun pins s σ H Q I h=>pairTrees_nil_walk ⟨[],H,I,.nil,h⟩
theorem Fo {X:Cx}{pos:Pos}{k v:Expr}{ks:List (Option Expr)}{vs:List Expr}{tk tv:TE}{RC:List (TE × TE)} (hk:PE X k tk) (hv:PE X v tv) (hr:vZ X pos ks vs RC) :
   vZ X pos (some k::ks) (v::vs) ((tk,tv)::RC):=fun pins s σ H Q I h =>
 pairTrees_cons_walk (dm (hk pins s σ H _ I h) fun u s1 ⟨x,H1,I1,rx,q1⟩=>dm (hv pins s1 σ H1 _ I1 q1) fun w2 s2 ⟨y,H2,I2,ry,q2⟩ =>
   dm (hr pins s2 σ H2 _ I2 q2) fun ws s3 ⟨ps,H3,I3,rel,q3⟩=>⟨(x,y)::ps,H3,I3,.cons ⟨rx,ry⟩ rel,q3⟩)
structure M1 (X:Cx) (o:Expr) (m:Str) (apos:Pos) (e:Expr) (cpos:Pos):Prop where
 base:attributeBase o m X.env (eval o X.env)=eval o X.env
 few:((backTo cpos (starEach [e] X.env)).all (fun x=>!x.1) && (backToKw cpos (keywordEach [] X.env)).all (fun x=>x.1.isSome)
   && decide (([e]:List Expr).length+([]:List Keyword).length+(if ([]:List Keyword).isEmpty then 0 else 1)<30))=true
 line:(apos.endLine == cpos.line)=true
 trees:backTo cpos (starEach [e] X.env)=[(false,eval e X.env)]
structure M2 (X:Cx) (o:Expr) (m:Str) (apos:Pos) (e f:Expr) (cpos:Pos):Prop where
 base:attributeBase o m X.env (eval o X.env)=eval o X.env
 few:((backTo cpos (starEach [e,f] X.env)).all (fun x=>!x.1) && (backToKw cpos (keywordEach [] X.env)).all (fun x=>x.1.isSome)
   && decide (([e,f]:List Expr).length+([]:List Keyword).length+(if ([]:List Keyword).isEmpty then 0 else 1)<30))=true
 line:(apos.endLine == cpos.line)=true
 trees:backTo cpos (starEach [e,f] X.env)=[(false,eval e X.env),(false,eval f X.env)]
def IsD (H:Hp) (a:Addr):Prop:=(∃ kvs,Rd H a (.dK kvs))∨∃ kvs,Rd H a (.dT kvs)
theorem Od {X:Cx}{pins:List (Addr × Obj)}{σ:St}{H:Hp}{s:Shared}{a:Addr} (I:Inv X pins σ H s) (d:IsD H a) :
   s.TypeIs (.ref a) "dict"∧(∀ b,Value.ref a=.ref b→∃ ob,s.heap.get? b=some ob∧ob.dict=none)∧(a == sysModules)=false:=by
 rcases d with ⟨kvs,e⟩ | ⟨kvs,e⟩
 · obtain⟨_,hd,vs,_,dd⟩:=vG I.hok e
   refine⟨dd.typeIs,fun b q=>?_,hd⟩
   cases q
   obtain⟨ob,_,_,h1,h2,_⟩:=dd
   exact⟨ob,h1,h2.2.1⟩
 · obtain⟨_,hd,xs,_,dd⟩:=vH I.hok e
   refine⟨dd.typeIs,fun b q=>?_,hd⟩
   cases q
   obtain⟨ob,_,_,h1,h2,_⟩:=dd
   exact⟨ob,h1,h2.2.1⟩
section
variable {X:Cx}{pins:List (Addr × Obj)}{σ:St}{H:Hp}{s:Shared}{a:Addr}{y d:V}{u r:Value}{o:Option V}{A:Around}{E:Value→Shared→Prop}
theorem Vn {Q:Value→Shared→Prop} (hu:A.units+1<cLine) (I:Inv X pins σ H s) (g:il H a y o) (ry:RelV y u) (h:∀ w' s',Inv X pins σ H s'→RelV (o.getD .non) w'→Q w' s') :
   wpAny (model X.prog X.w) A (call (.builtin "dict.get") [.ref a,u]) Q E s:=by
 rcases g with ⟨kvs,k,e,ey,l⟩ | ⟨kvs,k,b,e,ey,eb,l⟩
 · subst ey
   obtain⟨z,hd,vs,rel,dd⟩:=vG I.hok e
   refine call_meetsIn PySem.F.slot_dict_get dd.typeIs PySem.F.entry_dict_get (PySem.F.args_dict_get_2 _ _) (meets_dict_get (cO X.prog X.w) a (xj ry) hd) ⟨_,dd.mapOf,h _ _ (I.tok _) ?_⟩
   rw [l]
   exact (rel.val k).getD rfl
 · subst ey
   cases (show u=Value.ref b from ry)
   obtain⟨z,hd,xs,rel,dd⟩:=vH I.hok e
   refine call_meetsIn PySem.F.slot_dict_get dd.typeIs PySem.F.entry_dict_get (PySem.F.args_dict_get_2 _ _) (meetsH_dict_get (tupleKind (cO X.prog X.w)) a b hd) ⟨tupleKind_room_in1 hu,k,xs,oU I.hok eb,dd,h _ _ (I.tok _) ?_⟩
   rw [l]
   exact (rel.val k).getD rfl
theorem Vo {Q:Value→Shared→Prop} (hu:A.units+1<cLine) (I:Inv X pins σ H s) (g:il H a y o) (ry:RelV y u) (rd:RelV d r) (h:∀ w' s',Inv X pins σ H s'→RelV (o.getD d) w'→Q w' s') :
   wpAny (model X.prog X.w) A (call (.builtin "dict.get") [.ref a,u,r]) Q E s:=by
 rcases g with ⟨kvs,k,e,ey,l⟩ | ⟨kvs,k,b,e,ey,eb,l⟩
 · subst ey
   obtain⟨z,hd,vs,rel,dd⟩:=vG I.hok e
   refine call_meetsIn PySem.F.slot_dict_get dd.typeIs PySem.F.entry_dict_get (PySem.F.args_dict_get_3 _ _ _) (meets_dict_get_default (cO X.prog X.w) a (xj ry) hd r) ⟨_,dd.mapOf,h _ _ (I.tok _) ?_⟩
   rw [l]
   exact (rel.val k).getD rd
 · subst ey
   cases (show u=Value.ref b from ry)
   obtain⟨z,hd,xs,rel,dd⟩:=vH I.hok e
   refine call_meetsIn PySem.F.slot_dict_get dd.typeIs PySem.F.entry_dict_get (PySem.F.args_dict_get_3 _ _ _) (meetsH_dict_get_default (tupleKind (cO X.prog X.w)) a b hd r) ⟨tupleKind_room_in1 hu,k,xs,oU I.hok eb,dd,h _ _ (I.tok _) ?_⟩
   rw [l]
   exact (rel.val k).getD rd
end
def Vp (td ty:TE):TE:=fun σ H Q=>td σ H fun x H1=>∃ a,x=.ref a∧IsD H1 a∧ty σ H1 fun y H2=>∃ o,il H2 a y o∧Q (o.getD .non) H2
def Vq (td ty tx:TE):TE:=fun σ H Q=>td σ H fun x H1=>∃ a,x=.ref a∧IsD H1 a∧ty σ H1 fun y H2=>tx σ H2 fun z H3=>∃ o,il H3 a y o∧Q (o.getD z) H3
section
variable {X:Cx}{o e f:Expr}{apos cpos:Pos}{td ty tx:TE}
theorem Fp (hu:X.A.units+1<cLine) (ho:PE X o td) (he:PE X e ty) (m:M1 X o "get" apos e cpos):PE X (.Call (.Attribute o "get" apos) [e] [] cpos) (Vp td ty):=by
 intro pins s σ H Q I h
 refine wpAny_Call_method m.base m.few m.line PySem.F.plainAttrs_dict PySem.F.slot_dict_get PySem.F.type_dict_get (dm (ho pins s σ H _ I h) fun u s1 zq=>?_)
 obtain⟨x,H1,I1,rx,a,ex,d,q1⟩:=zq
 subst ex
 obtain rfl:u=Value.ref a:=rx
 obtain⟨t1,t2,_⟩:=Od I1 d
 refine⟨t1,t2,?_⟩
 rw [m.trees]
 refine Calls.callWith_builtin rfl (Calls.evalArgs_plain (Calls.spliced_cons (dm (he pins s1 σ H1 _ I1 q1) fun iv s2 ⟨y,H2,I2,ry,ov,g,q2⟩=>Calls.spliced_nil ?_)))
 exact Vn hu I2 g ry fun w' s3 I3 LQ=>⟨_,H2,I3,LQ,q2⟩
theorem Fq (hu:X.A.units+1<cLine) (ho:PE X o td) (he:PE X e ty) (hf:PE X f tx) (m:M2 X o "get" apos e f cpos):PE X (.Call (.Attribute o "get" apos) [e,f] [] cpos) (Vq td ty tx):=by
 intro pins s σ H Q I h
 refine wpAny_Call_method m.base m.few m.line PySem.F.plainAttrs_dict PySem.F.slot_dict_get PySem.F.type_dict_get (dm (ho pins s σ H _ I h) fun u s1 zq=>?_)
 obtain⟨x,H1,I1,rx,a,ex,d,q1⟩:=zq
 subst ex
 obtain rfl:u=Value.ref a:=rx
 obtain⟨t1,t2,_⟩:=Od I1 d
 refine⟨t1,t2,?_⟩
 rw [m.trees]
 refine Calls.callWith_builtin rfl (Calls.evalArgs_plain (Calls.spliced_cons (dm (he pins s1 σ H1 _ I1 q1) fun iv s2 ⟨y,H2,I2,ry,q2⟩ =>
   Calls.spliced_cons (dm (hf pins s2 σ H2 _ I2 q2) fun fv s3 ⟨z,H3,I3,rz,ov,g,q3⟩=>Calls.spliced_nil ?_))))
 exact Vo hu I3 g ry rz fun w' s4 I4 LQ=>⟨_,H3,I4,LQ,q3⟩
end
section
variable {X:Cx}{pins:List (Addr × Obj)}{σ:St}{H:Hp}{s:Shared}{a:Addr}{kvs:List (Key × V)}{A:Around}{E:Value→Shared→Prop}
end
section
variable {X:Cx}{pins:List (Addr × Obj)}{σ:St}{H:Hp}{s:Shared}{a:Addr}{y:V}{u:Value}{A:Around}{E:Value→Shared→Prop}
end
end L2
namespace L2
open PySem PySem.Spec PyProof.Rows
section
variable {X:Cx}
end
section
variable {κ:Type} [DecidableEq κ]
end
end L2
namespace L2
open PySem PySem.Spec PyProof.Rows PySem.Calls
section
variable {prog:Program}{w:World}{A:Around}{R:Result→Shared→Prop}{s:Shared}
theorem Ft {elt target iter:Expr}{scope:Scope}{pos:Pos}{it acc:Value}{env:Env} (I:Nat→Shared→Prop)
   (turn:∀ n s,I n s→wpAny (model prog w) A (pyNext it) (fun r s₁=>match r with
     | none=>R (.ok .next) s₁
     | some v=>wpAny (model prog w) A (letOwnedTupleGo target it v) (fun _ s₂=>wpAny (model prog w) A (assign target env v) (fun _ s₃ =>
         wpAny (model prog w) A (eval elt env) (fun x s₄ =>
           wpAny (model prog w) A (call (.builtin "list.append") [acc,x]) (fun _ s₅=>∃ m,m<n∧I m s₅) (notedBy (model prog w) A env fun e s'=>R (.error e) s') s₄)
           (notedBy (model prog w) A env fun e s'=>R (.error e) s') s₃) (notedBy (model prog w) A env fun e s'=>R (.error e) s') s₂) (notedBy (model prog w) A env fun e s'=>R (.error e) s') s₁)
     (notedBy (model prog w) A env fun e s'=>R (.error e) s') s)
   (n:Nat) (h:I n s):codeAny (model prog w) A (.compLoop (.ListComp elt [⟨target,iter,[],0⟩] scope pos) 0 it acc env) R s:=by
 refine codeAny_loop rfl I (fun n s hI=>?_) n h
 show wpAny _ A ((compTurn (.ListComp elt [⟨target,iter,[],0⟩] scope pos) 0 it acc env).onRaise (fun x=>do noteFrame x env;theTreesLotGoes x)) _ _ s
 refine wpAny_noted ?_
 rw [compTurn_list1]
 refine wpAny_bind (wpAny_standAt (wpAny_bind (wpAny_mono (turn n s hI) (fun r s₁ h₁=>?_) fun _ _ h'=>h')))
 cases r with
 | none=>exact wpAny_pure h₁
 | some v =>
   refine wpAny_bind (wpAny_mono h₁ (fun _ s₂ h₂=>wpAny_bind (wpAny_mono h₂ (fun _ s₃ h₃=>?_) fun _ _ h'=>h')) fun _ _ h'=>h')
   exact wpAny_bind (wpAny_bind (wpAny_mono h₃ (fun x s₄ h₄=>wpAny_bind (wpAny_mono h₄ (fun _ s₅ h₅=>wpAny_pure (wpAny_pure ⟨rfl,h₅⟩)) fun _ _ h'=>h')) fun _ _ h'=>h'))
end
def jj (env:Env):List (Str × NameKind)→List (Str × Addr)→List (Str × Addr)
 | [],cs=>cs
 | (n,k)::r,cs=>jj env r (if k == .free then match env.cells.lookup n with | some c=>(n,c)::cs | none=>cs else cs)
theorem Fv {env:Env}:∀ {ns:List (Str × NameKind)}{cs:List (Str × Addr)}{y:Str}{c:Addr},(y,c)∈jj env ns cs→(y,c)∈cs∨env.cells.lookup y=some c
 | [],_,_,_,h=>.inl h
 | (n,k)::r,cs,y,c,h=>by
   unfold jj at h
   rcases Fv h with q | q
   · split at q
     · cases e:env.cells.lookup n with
       | none=>rw [e] at q;exact .inl q
       | some d =>
         rw [e] at q
         rcases List.mem_cons.mp q with z | z
         · cases z;exact .inr e
         · exact .inl z
     · exact .inl q
   · exact .inr q
theorem Fw {env:Env}:∀ {ns:List (Str × NameKind)}{cs:List (Str × Addr)}{y:Str},((∃ c,(y,c)∈cs)∨((y,NameKind.free)∈ns∧∃ c,env.cells.lookup y=some c))→∃ c,(y,c)∈jj env ns cs
 | [],_,_,h=>by
   rcases h with h | ⟨h,_⟩
   · exact h
   · cases h
 | (n,k)::r,cs,y,h=>by
   unfold jj
   apply Fw
   rcases h with ⟨c,h⟩ | ⟨h,c,e⟩
   · left
     split
     · cases e:env.cells.lookup n with
       | none=>exact⟨c,h⟩
       | some d=>exact⟨c,List.mem_cons_of_mem _ h⟩
     · exact⟨c,h⟩
   · rcases List.mem_cons.mp h with z | z
     · cases z
       left
       rw [e]
       exact⟨c,by simp⟩
     · exact .inr ⟨z,c,e⟩
theorem xm {env:Env}:∀ {ns:List (Str × NameKind)}{cs:List (Str × Addr)},(∀ y,(y,NameKind.free)∈ns→∃ c,env.cells.lookup y=some c) →
   (forIn ns cs fun (x:Str × NameKind) (r:List (Str × Addr))=>(if x.2 == NameKind.free then (do let c ← cellOf env x.1;pure (ForInStep.yield ((x.1,c)::r))) else pure (ForInStep.yield r):Sem (ForInStep (List (Str × Addr)))))=(pure (jj env ns cs):Sem (List (Str × Addr)))
 | [],_,_=>rfl
 | (n,k)::r,cs,h=>by
   have ih:=@xm env r
   rw [List.forIn_cons]
   unfold jj
   cases hk:k == NameKind.free with
   | false =>
     simp only [Bool.false_eq_true,if_false]
     exact ih fun y hy=>h y (List.mem_cons_of_mem _ hy)
   | true =>
     have ek:k=NameKind.free:=by simpa using hk
     subst ek
     obtain⟨c,e⟩:=h n (by simp)
     have ec:cellOf env n=pure c:=by unfold cellOf;rw [e]
     simp only [if_true]
     rw [ec,e]
     exact ih fun y hy=>h y (List.mem_cons_of_mem _ hy)
theorem IK {scope:Scope}{env:Env} (h:∀ y,(y,NameKind.free)∈scope.names→∃ c,env.cells.lookup y=some c):closureFor scope env=pure (jj env scope.names []):=by
 have q:=xm (cs:=[]) h
 unfold closureFor
 exact congrArg (fun m=>m >>= fun r=>pure r) q
end L2
namespace L2
open PySem PySem.Spec PyProof.Rows PySem.Calls
theorem xR {env:Env}{y:Str}:∀ {names:List (Str × NameKind)},
   (names.map fun (n,k)=>if (k == NameKind.free && env.scope.kind == .function && env.kindOf n == some .cell) then (n,NameKind.cell) else (n,k)).lookup y
     = (names.lookup y).map fun k=>if (k == NameKind.free && env.scope.kind == .function && env.kindOf y == some .cell) then NameKind.cell else k
 | []=>rfl
 | (n,k)::r=>by
   have ih:=@xR env y r
   by_cases hx:y=n
   · subst hx
     simp only [List.map_cons]
     split <;> rename_i hc
     · rw [List.lookup_cons,List.lookup_cons];simp only [beq_self_eq_true,Option.map_some];rw [if_pos hc]
     · rw [List.lookup_cons,List.lookup_cons];simp only [beq_self_eq_true,Option.map_some];rw [if_neg hc]
   · have hb:(y == n)=false:=beq_eq_false_iff_ne.mpr hx
     simp only [List.map_cons]
     split <;> simp only [List.lookup_cons,hb] <;> exact ih
section
variable {X:Cx}{pins:List (Addr × Obj)}{σ:St}{H:Hp}{s:Shared}{a:Addr}{o:HO}
theorem Inv.track (I:Inv X pins σ H s) (f:m8 X pins H a) (hs:X.s₀.heap.objs.size≤a) (new:cu X.prog X.w (upd H a o) s.heap a o):Inv X pins σ (upd H a o) s:=by
 obtain⟨f0,f1,f2,f3,f4,f5⟩:=f
 have old:∀ b ob,X.s₀.heap.get? b=some ob→b≠a:=fun b ob e z=>by subst z;exact absurd (Nat.lt_of_lt_of_le (Heap.lt_size e) hs) (Nat.lt_irrefl _)
 refine⟨I.ok,I.os,I.bare,⟨I.base.keep,I.base.slot,fun b ob e n hx=>?_,I.base.there,fun b xs e=>?_,fun b ob u e=>?_,fun b ps e=>?_⟩,I.loc,I.cell,?_,fun x c e=>?_,fun p hp=>?_,fun b u e=>?_,I.len⟩
 · rw [zI (old b ob e)];exact I.base.free b ob e n hx
 · have q:=I.base.tups b xs e;rw [zI (zH q f0)];exact q
 · have q:=I.base.lZ b ob u e;rw [zI (zH q f0)];exact q
 · obtain⟨more,q⟩:=I.base.mU b ps e;exact⟨more,by rw [zI (zH q f0)];exact q⟩
 · rw [zI (Ne.symm f1)];exact I.free
 · rw [zI (f4 x c e)];exact I.jh x c e
 · obtain⟨e,n,ne,nf,d⟩:=I.pin p hp
   exact⟨e,by rw [zI (f5 p hp)];exact n,ne,nf,d⟩
 · by_cases hb:b=a
   · subst hb;rw [zB] at e;cases e;exact new
   · rw [zI hb] at e
     exact (I.hok b u e).stay (fun c v _ q=>q) (fun c q=>by rw [zI (zH q f0)];exact q) fun c xs q=>by rw [zI (zH q f0)];exact q
end
def nq (X:Cx) (scope:Scope) (C:Addr) (x:Str) (M:List Str) (s₂:Shared) (H₂:Hp) (fp:List Addr):Cx :=
 { X with N:=x::M,s₀:=s₂,H₀:=H₂,env:=compEnvC scope (jj X.env scope.names []) C X.env,outer:=X.stack,ex:=fp,fn:=fun _=>false,pn:=[],xe:=fun _ _=>False }
structure dh (X:Cx) (scope:Scope) (x:Str) (M:List Str):Prop where
 kind:scope.kind=.function
 cell:∀ y∈scope.names,y.2≠.cell
 names:∀ y∈scope.names,y.2=.local→scope.names.lookup y.1=some .local
 loc:scope.names.lookup x=some .local
 nd:(x::M).Nodup
 free:∀ y,(y,NameKind.free)∈scope.names→X.env.scope.names.lookup y=some .cell∨X.env.scope.names.lookup y=some .free
 len:M.length=X.N.length
 sub:∀ (j:Nat) y,M[j]? = some y→scope.names.lookup y=some .local∨scope.names.lookup y=some .free→X.N[j]? = some y∧scope.names.lookup y=some .free
def Kw (names outer:List (Str × NameKind)) (N M:List Str) (x:Str):Bool :=
 names.all (fun y=>decide (y.2≠.cell)) && names.all (fun y=>decide (y.2=.local→names.lookup y.1=some .local)) && decide (names.lookup x=some .local) && decide (x::M).Nodup &&
 names.all (fun y=>decide (y.2=.free→(outer.lookup y.1=some .cell∨outer.lookup y.1=some .free))) && decide (M.length=N.length) &&
 (M.zip N).all (fun p=>decide (names.lookup p.1=some .local∨names.lookup p.1=some .free→p.1=p.2∧names.lookup p.1=some .free))
theorem xC {X:Cx}{scope:Scope}{x:Str}{M:List Str} (hk:scope.kind=.function) (h:Kw scope.names X.env.scope.names X.N M x=true):dh X scope x M:=by
 unfold Kw at h
 simp only [Bool.and_eq_true,List.all_eq_true,decide_eq_true_eq] at h
 obtain⟨⟨⟨⟨⟨⟨h1,h2⟩,h3⟩,h4⟩,h5⟩,h6⟩,h7⟩:=h
 refine⟨hk,h1,h2,h3,h4,fun y hy=>h5 _ hy rfl,h6,fun j y e q=>?_⟩
 have hj:j<M.length:=(List.getElem?_eq_some_iff.mp e).1
 have hj2:j<X.N.length:=by omega
 have z:(M.zip X.N)[j]? = some (y,X.N[j]):=by rw [List.getElem?_zip_eq_some];exact⟨e,by simp [hj2]⟩
 have r:=h7 _ (List.mem_of_getElem? z) q
 exact⟨by rw [List.getElem?_eq_getElem hj2];exact congrArg some r.1.symm,r.2⟩
section
variable {X:Cx}{scope:Scope}{x:Str}{M:List Str}{pins:List (Addr × Obj)}{σ:St}{H₂:Hp}{s₂:Shared}
theorem dh.sS {y:Str}{c:Addr} (h:(jj X.env scope.names []).lookup y=some c):X.env.cells.lookup y=some c:=by
 rcases Fv (PySem.mem_of_lookup h) with q | q
 · cases q
 · exact q
theorem dh.IV (K:dh X scope x M) (ok:X.Ok) {y:Str} (h:(y,NameKind.free)∈scope.names):∃ c,(jj X.env scope.names []).lookup y=some c∧X.env.cells.lookup y=some c:=by
 have e1:∃ c,X.env.cells.lookup y=some c:=ok.has y (K.free y h)
 obtain⟨c,hc⟩:=Fw (env:=X.env) (ns:=scope.names) (cs:=[]) (y:=y) (.inr ⟨h,e1⟩)
 have q:∃ c,(jj X.env scope.names []).lookup y=some c:=by
   cases e:(jj X.env scope.names []).lookup y with
   | some c=>exact⟨c,rfl⟩
   | none =>
     rw [List.lookup_eq_none_iff] at e
     have:=e _ hc
     simp at this
 obtain⟨c',hc'⟩:=q
 exact⟨c',hc',dh.sS hc'⟩
theorem dh.closure (K:dh X scope x M) (ok:X.Ok):closureFor scope X.env=pure (jj X.env scope.names []) :=
 IK fun y hy=>by obtain⟨c,_,q⟩:=K.IV ok hy;exact⟨c,q⟩
theorem Fx (K:dh X scope x M) (I:Inv X pins σ H₂ s₂) {fp:List Addr} (hf:∀ b∈fp,m8 X pins H₂ b) (hfl:∀ b∈fp,b<s₂.heap.objs.size) {C:Addr} (hC:s₂.heap.objs.size≤C) {h₁:Heap}{t:Nat}{m:Str→Option Value} (hn:h₁.Ns C m)
   (hk:∀ b o,s₂.heap.get? b=some o→h₁.get? b=some o):Inv (nq X scope C x M s₂ H₂ fp) [] (none::σ) H₂ { s₂ with heap:=h₁,toks:=t }:=by
 have lt:∀ {b:Addr}{o:Obj},s₂.heap.get? b=some o→b≠C:=fun {b o} e z=>by subst z;exact absurd (Nat.lt_of_lt_of_le (Heap.lt_size e) hC) (Nat.lt_irrefl _)
 have cC:∀ y c,(jj X.env scope.names []).lookup y=some c→c≠C:=fun y c e=>by
   obtain⟨v,o,ho,_⟩:=I.cell y c (dh.sS e)
   exact lt ho
 have sub:∀ b∈frs X.stack,b=X.env.locals∨b∈X.fs:=fun b hb=>List.mem_cons.mp (I.wZ b hb)
 have ok:(nq X scope C x M s₂ H₂ fp).Ok:=by
   refine⟨I.ok.mod,K.kind,I.ok.glob,I.ok.blt,hC,fun y z c h1 h2=>?_,fun y hy=>?_,fun y c z=>?_,I.ok.hd,I.ok.frames,.inl rfl,fun b hb=>⟨?_,fun y c e=>?_⟩,I.bs,Nat.le_trans I.ok.Lk I.sz,fun b o e hb=>?_,fun b hb hb2=>?_,I.stack,I.CN⟩
   · exact I.ok.inj y z c (dh.sS h1) (dh.sS h2)
   · have hy':(relabel scope X.env).names.lookup y=some .cell∨(relabel scope X.env).names.lookup y=some .free:=hy
     have q:(y,NameKind.free)∈scope.names:=by
       unfold relabel at hy'
       rw [xR] at hy'
       cases e:scope.names.lookup y with
       | none=>rw [e] at hy';simp at hy'
       | some k =>
         have hm:=PySem.mem_of_lookup e
         cases k with
         | free=>exact hm
         | cell=>exact absurd rfl (K.cell _ hm)
         | _=>rw [e] at hy';simp at hy'
     obtain⟨c,q,_⟩:=K.IV I.ok q
     exact⟨c,q⟩
   · exact Bool.noConfusion (show false=true from z)
   · intro z
     have z':b=C:=z
     subst z'
     exact absurd (Nat.lt_of_lt_of_le (hfl b hb) hC) (Nat.lt_irrefl _)
   · exact (hf b hb).2.2.2.2.1 y c (dh.sS e)
   · have q:=(hf b hb).2.2.2.1
     rcases q with q | q
     · exact I.ok.Nj b o e q
     · exact absurd (Nat.lt_of_lt_of_le (Heap.lt_size (I.ok.bs b o e).1) q) (Nat.lt_irrefl _)
   · rcases sub b hb2 with z | z
     · exact (hf b hb).2.1 z
     · exact (hf b hb).2.2.1 z
 refine⟨ok,rfl,I.bare,Un.kept hk,⟨m,hn,fun i y v e1 e2 e3=>?_⟩,fun y c e=>?_,?_,fun y c e=>?_,fun p hp=>absurd (show p∈([]:List (Addr × Obj)) from hp) (by simp),I.hok.kept hk,?_⟩
 · cases i with
   | zero =>
     have e2':some (none:Option V)=some (some v):=e2
     cases e2'
   | succ j =>
     have e1':M[j]? = some y:=e1
     have e2':σ[j]? = some (some v):=e2
     have e3':(relabel scope X.env).names.lookup y=some .local∨(relabel scope X.env).names.lookup y=some .cell∨(relabel scope X.env).names.lookup y=some .free:=e3
     have q:scope.names.lookup y=some .local∨scope.names.lookup y=some .free:=by
       unfold relabel at e3'
       rw [xR] at e3'
       cases e:scope.names.lookup y with
       | none=>rw [e] at e3';simp at e3'
       | some k =>
         have hm:=PySem.mem_of_lookup e
         cases k with
         | free=>exact .inr rfl
         | «local»=>exact .inl rfl
         | cell=>exact absurd rfl (K.cell _ hm)
         | _=>rw [e] at e3';simp at e3'
     obtain⟨nj,fr⟩:=K.sub j y e1' q
     have hm:=PySem.mem_of_lookup fr
     have kd:=K.free y hm
     have vs:Vis X.env.scope y:=.inr kd
     obtain⟨mo,_,lo⟩:=I.loc
     obtain⟨u,r,l⟩:=lo j y v nj e2' vs
     refine⟨u,r,.inr ⟨?_,?_⟩⟩
     · show (relabel scope X.env).names.lookup y=some .cell∨(relabel scope X.env).names.lookup y=some .free
       unfold relabel
       rw [xR,fr]
       simp only [Option.map_some]
       split
       · exact .inl rfl
       · exact .inr rfl
     · obtain⟨c,q1,q2⟩:=K.IV I.ok hm
       rcases l with ⟨k,_⟩ | ⟨_,c',q3,z⟩
       · have k':X.env.scope.names.lookup y=some .local:=k
         rcases kd with kd | kd <;> · rw [k'] at kd;cases kd
       · rw [q2] at q3
         cases q3
         obtain⟨oc,ho,hd⟩:=z
         exact⟨c,q1,oc,hk _ _ ho,hd⟩
 · obtain⟨v,oc,ho,hd⟩:=I.cell y c (dh.sS e)
   exact⟨v,oc,hk _ _ ho,hd⟩
 · exact I.hok.fresh hC
 · exact I.jh y c (dh.sS e)
 · show (none::σ).length=(x::M).length
   rw [List.length_cons,List.length_cons,K.len,I.len]
end
end L2
namespace L2
open PySem PySem.Spec PyProof.Rows PySem.Calls
def TV (wi:TI) (te:TE):TE:=fun σ H Q=>wi σ H fun J H1=>∃ (n:Nat) (W:Nat→List V→Hp→Prop),n≤sizeLine∧W 0 [] H1∧∀ i ys H,i≤n→ys.length=i→W i ys H →
 (J.stop i H∧∀ p,H p=none→Q (.ref p) (upd H p (.lst ys)))∨(J.go i H∧i<n∧∀ x H',J.Ih i H x H'→te (some x::σ) H' fun v HY=>W (i+1) (ys++[v]) HY)
section
variable {X:Cx}{scope:Scope}{x:Str}{M:List Str}{pins:List (Addr × Obj)}{σ:St}{H₂:Hp}{s₂:Shared}{elt iter:Expr}{px pos:Pos}{te:TE}{wi:TI}
theorem xn (K:dh X scope x M) (hc:X.calm=true) (I:Inv X pins σ H₂ s₂) (he:∀ (C:Addr) (s₂:Shared) (H₂:Hp) (fp:List Addr),PE (nq X scope C x M s₂ H₂ fp) elt te)
   {it:Addr}{fp:List Addr}{tn:Nat→Heap→Prop}{J:It} (T:Turn X.prog X.w X.K (.Name x px) J fp it tn) (st:tn 0 s₂.heap) (hf:∀ b∈fp,m8 X pins H₂ b) {n:Nat} (hsz:n≤sizeLine) {W:Nat→List V→Hp→Prop}{F:List V→Hp→Prop}
   (w0:W 0 [] H₂) (turn:∀ i ys H,i≤n→ys.length=i→W i ys H→(J.stop i H∧F ys H)∨(J.go i H∧i<n∧∀ x H',J.Ih i H x H'→te (some x::σ) H' fun v HY=>W (i+1) (ys++[v]) HY))
   {E:Value→Shared→Prop}{RR:Value→Addr→Result→Shared→Prop}
   (hRR:∀ (D C:Addr) (s':Shared) (H':Hp) (ys:List V) (m:Str→Option Value),Inv X pins σ (upd H' D (.lst ys)) s'→H' D=none→m8 X pins (upd H' D (.lst ys)) C→s'.heap.Ns C m→F ys H'→RR (.ref D) C (.ok .next) s') :
   wpAny (model X.prog X.w) X.A (newList []) (fun acc s₃=>wpAny (model X.prog X.w) X.A (newFunctionEnv scope X.env.globals (jj X.env scope.names []) [] X.env.qual none .none (some X.env)) (fun cenv s₄ =>
     codeAny (model X.prog X.w) X.A (.compStart (.ListComp elt [⟨.Name x px,iter,[],0⟩] scope pos) 0 (.ref it) acc { cenv with scope:=relabel scope X.env }) (RR acc cenv.locals) s₄) E s₃) E s₂:=by
 refine wpAny_newObj_type (wpAny_newFunctionEnv K.cell (by intro y hy;simp at hy) (fun h₁ hns₁ hsb₁=>?_) K.kind)
 dsimp only at hns₁ hsb₁ ⊢
 generalize hH2:s₂.heap.push { cls:=.type "list",dict:=none,data:=.seq ([]:List Value).toArray } = H2 at hns₁ hsb₁ ⊢
 have hC:H2.objs.size=s₂.heap.objs.size+1:=by rw [← hH2,Heap.size_push]
 have hDC:s₂.heap.objs.size≠H2.objs.size:=by rw [hC];exact Nat.ne_of_lt (Nat.lt_succ_self _)
 have below:∀ b,b<s₂.heap.objs.size→b≠H2.objs.size∧b≠s₂.heap.objs.size:=fun b hb=>⟨by rw [hC];exact Nat.ne_of_lt (Nat.lt_succ_of_lt hb),Nat.ne_of_lt hb⟩
 have hfl:∀ b∈fp,b<s₂.heap.objs.size:=fun b hb=>by obtain⟨o,e,_⟩:=T.obj _ _ st b hb;exact Heap.lt_size e
 have old:∀ b o,s₂.heap.get? b=some o→h₁.get? b=some o:=fun b o e=>hsb₁.extBut b o (below b (Heap.lt_size e)).1 (Heap.get?_push_of_some _ (hH2 ▸ Heap.get?_push_of_some _ e))
 have hacc:h₁.get? s₂.heap.objs.size=some { cls:=.type "list",data:=.seq ([]:List Value).toArray 0 }:=hsb₁.extBut _ _ hDC (Heap.get?_push_of_some _ (hH2 ▸ Heap.get?_push_size _ rfl))
 generalize hCC:H2.objs.size=C at *
 generalize Ar:s₂.heap.objs.size=D at *
 have hCle:s₂.heap.objs.size≤C:=by rw [Ar,hC];exact Nat.le_succ _
 have st₁:tn 0 h₁:=T.keep _ _ _ st fun b _ o e=>old b o e
 have I₁:=Fx (t:=s₂.toks+([]:List (Str × Value)).length) K I hf (fun b hb=>by rw [Ar];exact hfl b hb) hCle hns₁ old
 generalize hX':nq X scope C x M s₂ H₂ fp=X' at I₁
 have eX:X'.prog=X.prog∧X'.w=X.w∧X'.K=X.K∧X'.calm=true∧X'.A=X.A∧X'.ex=fp∧X'.env=compEnvC scope (jj X.env scope.names []) C X.env∧X'.s₀=s₂∧X'.pn=[]:=by
   subst hX';exact⟨rfl,rfl,rfl,hc,rfl,rfl,rfl,rfl,rfl⟩
 obtain⟨eP,ew,eK,ec,eA,eex,Fy,ZW,Vr⟩:=eX
 have eL:X'.env.locals=C:=by rw [Fy];rfl
 have cells':∀ y c,X'.env.cells.lookup y=some c→X.env.cells.lookup y=some c:=fun y c e=>by rw [Fy] at e;exact dh.sS e
 have efs:X'.fs=frs X.stack:=by subst hX';rfl
 have De:∀ b∈X'.fs,b=X.env.locals∨b∈X.fs:=fun b hb=>List.mem_cons.mp (I.wZ b (by rw [← efs];exact hb))
 have IW:∀ {pn:List (Addr × Obj)}{H':Hp},(∀ p∈pn,p.1=D)→(∀ b∈fp,H' b=none)→∀ b∈fp,m8 X' pn H' b:=fun {pn H'} hp hn b hb=>by
   refine⟨hn b hb,?_,fun z=>?_,.inl (by rw [eex];exact hb),fun y c e=>(hf b hb).2.2.2.2.1 y c (cells' y c e),fun p hq=>?_⟩
   · rw [eL];exact (below b (hfl b hb)).1
   · rcases De b z with q | q
     · exact (hf b hb).2.1 q
     · exact (hf b hb).2.2.1 q
   · rw [Vr,List.nil_append] at hq
     rw [hp p hq];exact Ne.symm (below b (hfl b hb)).2
 have Dfp:D∉fp:=fun z=>Nat.lt_irrefl _ (hfl D z)
 have Oe:X.env.locals<D:=by have:=I.lt;rw [Ar] at this;exact this
 have Vs:∀ b∈X.fs,b<D:=fun b hb=>Nat.lt_of_not_le fun z=>I.U6 (a:=b) (by rw [Ar];exact z) hb
 have Og:∀ {b:Addr}{pn:List (Addr × Obj)}{H':Hp},D≤b→b≠C→H' b=none→(∀ p∈pn,p.1≠b)→m8 X' pn H' b:=fun {b pn H'} hb hbC hn hp=>by
   refine⟨hn,by rw [eL];exact hbC,fun z=>?_,.inr (by rw [ZW,Ar];exact hb),fun y c e=>?_,fun p hq=>?_⟩
   · rcases De b z with q | q
     · rw [q] at hb;exact absurd (Nat.lt_of_lt_of_le Oe hb) (Nat.lt_irrefl _)
     · exact absurd (Nat.lt_of_lt_of_le (Vs b q) hb) (Nat.lt_irrefl _)
   · obtain⟨v,o,ho,_⟩:=I.cell y c (cells' y c e)
     have:=Heap.lt_size ho
     rw [Ar] at this
     exact Nat.ne_of_lt (Nat.lt_of_lt_of_le this hb)
   · rw [Vr,List.nil_append] at hq
     exact hp p hq
 have outer:∀ {σ':St}{H':Hp}{s':Shared}{pn:List (Addr × Obj)},Inv X' pn σ' H' s'→Inv X pins σ H' s':=fun {σ' H' s' pn} J'=>by
   subst hX'
   refine I.call' (ch:=fp) J'.os J'.base J'.hok J'.bare fun b hb=>?_
   obtain⟨f0,f1,f2,f3,f4,f5⟩:=hf b hb
   exact⟨f3,f1,f4,f5⟩
 have FJ:∀ {b:Addr}{H':Hp},D≤b→H' b=none→m8 X pins H' b:=fun {b H'} hb hn=>by
   have q:=I.Ii (H':=H') (b:=b) (by rw [Ar];exact hb) hn
   exact q
 have loop:∀ s₃:Shared,s₃={ s₂ with heap:=h₁,toks:=s₂.toks+([]:List (Str × Value)).length } →
     codeAny (model X.prog X.w) X.A (.compLoop (.ListComp elt [⟨.Name x px,iter,[],0⟩] scope pos) 0 (.ref it) (.ref D) (compEnvC scope (jj X.env scope.names []) C X.env)) (RR (.ref D) C) s₃:=by
   rintro s₃ rfl
   refine Ft (fun k s'=>∃ (i:Nat) (ys:List V) (its:List Value) (σ0:Option V) (H':Hp),i≤n∧k=n+1 - i∧ys.length=i∧Inv X' [] (σ0::σ) H' s'∧tn i s'.heap∧(∀ b∈fp,H' b=none)∧H' D=none∧Vals ys its ∧
     (∃ c,s'.heap.get? D=some { cls:=.type "list",data:=.seq its.toArray c })∧W i ys H') ?_ (n+1) ⟨0,[],[],none,H₂,Nat.zero_le _,rfl,rfl,I₁,st₁,fun b hb=>(hf b hb).1,by rw [← Ar];exact I.hok.fresh (Nat.le_refl _),.nil,⟨0,hacc⟩,w0⟩
   rintro k s' ⟨i,ys,its,σ0,H',hi,rfl,hyl,I',st',fr',hD',rv,⟨c,hobj⟩,w'⟩
   have hx0:X'.N[0]? = some x:=by subst hX';rfl
   have hxl:X'.env.scope.names.lookup x=some .local:=by rw [Fy];exact lookup_relabel_local K.loc
   have hNd:X'.N.Nodup:=by subst hX';exact K.nd
   rcases turn i ys H' hi hyl w' with ⟨stop,fin⟩ | ⟨go,hlt,step⟩
   · have Ja:Inv X' [(D,{ cls:=.type "list",data:=.seq its.toArray c })] (σ0::σ) H' s':=I'.jE fun p hp=>by
       obtain rfl:p=(D,{ cls:=.type "list",data:=.seq its.toArray c }):=by simpa using hp
       refine⟨hobj,hD',?_,?_,fun v z=>nomatch z⟩
       · rw [eL];exact hDC
       · intro z
         rcases De D z with q | q
         · rw [q] at Oe;exact Nat.lt_irrefl _ Oe
         · exact Nat.lt_irrefl _ (Vs D q)
     have q:=T.done X' eP ew eK ec i _ s' (σ0::σ) H' (notedBy (model X.prog X.w) X.A (compEnvC scope (jj X.env scope.names []) C X.env) fun e s'=>RR (.ref D) C (.error e) s') Ja (IW (fun p hp=>by obtain rfl:p=(D,{ cls:=.type "list",data:=.seq its.toArray c }):=(by simpa using hp);rfl) fr') st' stop
     rw [eA] at q
     refine wpAny_mono q (fun r s4 ⟨hr,I4⟩=>?_) fun _ _ z=>z
     subst hr
     obtain⟨e4,n4,_⟩:=I4.pin (D,{ cls:=.type "list",data:=.seq its.toArray c }) (List.mem_append_right _ (by simp))
     have O4:=outer I4
     obtain⟨m4,ZX,_⟩:=I4.loc
     rw [eL] at ZX
     refine hRR D C s4 H' ys m4 (O4.track (FJ (Nat.le_refl _) n4) (Nat.le_trans I.sz (by rw [Ar];exact Nat.le_refl _)) ⟨by rw [hyl];exact Nat.le_trans hi hsz,its,c,rv,e4⟩) n4 (FJ (by rw [hC];exact Nat.le_succ _) ?_) ZX fin
     rw [zI (Ne.symm hDC)]
     have:=I4.free
     rw [eL] at this
     exact this
   · have Ja:Inv X' [(D,{ cls:=.type "list",data:=.seq its.toArray c })] (σ0::σ) H' s':=I'.jE fun p hp=>by
       obtain rfl:p=(D,{ cls:=.type "list",data:=.seq its.toArray c }):=by simpa using hp
       refine⟨hobj,hD',?_,?_,fun v z=>nomatch z⟩
       · rw [eL];exact hDC
       · intro z
         rcases De D z with q | q
         · rw [q] at Oe;exact Nat.lt_irrefl _ Oe
         · exact Nat.lt_irrefl _ (Vs D q)
     have pd:∀ p∈[(D,({ cls:=.type "list",data:=.seq its.toArray c }:Obj))],p.1=D:=fun p hp=>by obtain rfl:p=(D,{ cls:=.type "list",data:=.seq its.toArray c }):=(by simpa using hp);rfl
     have q:=T.item X' eP ew eK ec i _ s' (σ0::σ) H' (notedBy (model X.prog X.w) X.A (compEnvC scope (jj X.env scope.names []) C X.env) fun e s'=>RR (.ref D) C (.error e) s') Ja (IW pd fr') st' go
     rw [eA] at q
     refine wpAny_mono q (fun r s4 ⟨u,hr,h4⟩=>?_) fun _ _ z=>z
     subst hr
     refine wpAny_mono h4 (fun _ s5 ⟨xv,H5,I5,r5,y5,Ls,Zy⟩=>?_) fun _ _ z=>z
     have Zz:=I5.pinned (IW pd Zy) (T.obj _ _ Ls)
     refine wpAny_assign_Name ?_
     rw [← Fy]
     refine w5 Zz hNd hx0 (.inl hxl) r5 (fun s6 I6=>?_) (.inr hxl)
     have te6:=step xv H5 y5
     have q6:=(he C s₂ H₂ fp) (([(D,({ cls:=.type "list",data:=.seq its.toArray c }:Obj))])++qT fp s5.heap) s6 (some xv::σ) H5 (fun v HY=>W (i+1) (ys++[v]) HY) (by rw [hX'];exact I6) te6
     rw [hX',eP,ew,eA] at q6
     refine wpAny_mono q6 (fun u7 s7 ⟨v7,H7,I7,r7,w7⟩=>?_) (fun _ _ z=>by subst hX';exact (show False from z).elim)
     obtain⟨e7,n7,_⟩:=I7.pin (D,{ cls:=.type "list",data:=.seq its.toArray c }) (List.mem_append_right _ (List.mem_append_left _ (by simp)))
     refine append_at (hsz:=by rw [List.size_toArray,← rv.length,hyl];exact Nat.le_trans hi hsz) e7 fun h8 ZZ g8=>?_
     have I8:Inv X' [] (some xv::σ) H7 { s7 with heap:=h8,toks:=s7.toks }:=(I7.jE (Ey:=[]) fun p hp=>absurd hp (by simp)).turned (t':=s7.toks) (it:=D) (fun b o hb e=>(ZZ.2 b hb).trans e) n7 (by rw [eL];exact hDC) (.inr (by rw [ZW,Ar];exact Nat.le_refl _))
       (Og (H':=H7) (pn:=[]) (Nat.le_refl _) hDC n7 (fun p hp=>absurd hp (by simp))).2.2.2.2.1 (fun p hp=>by rw [Vr] at hp;exact absurd hp (by simp))
     refine⟨n+1 - (i+1),by omega,i+1,ys++[v7],its++[u7],some xv,H7,hlt,rfl,by rw [List.length_append,List.length_singleton,hyl],I8,?_,fun b hb=>?_,n7,rv.append (.cons r7 .nil),⟨c+1,?_⟩,w7⟩
     · refine T.keep _ _ _ Ls fun b hb o e=>?_
       have e':=(I7.pin (b,o) (List.mem_append_right _ (List.mem_append_right _ (xE hb e)))).1
       exact (ZZ.2 b (fun z=>Dfp (z ▸ hb))).trans e'
     · obtain⟨o,e,d⟩:=T.obj _ _ Ls b hb
       exact (I7.pin (b,o) (List.mem_append_right _ (List.mem_append_right _ (xE hb e)))).2.1
     · rw [g8,List.push_toArray]
 exact codeAny_compStart_list (loop _ rfl) (T.self X.A 0 _ _ _ st₁ (loop _ rfl))
theorem RG (K:dh X scope x M) (hc:X.calm=true) (hi:PI X (.Name x px) iter wi) (he:∀ (C:Addr) (s₂:Shared) (H₂:Hp) (fp:List Addr),PE (nq X scope C x M s₂ H₂ fp) elt te)
   (hs:∀ x,foldedSetIterable iter X.env x=pure x:=by intro _;rfl):PE X (.ListComp elt [⟨.Name x px,iter,[],0⟩] scope pos) (TV wi te):=by
 intro pins s σ H Q I h
 rw [eval_ListComp]
 refine wpAny_comprehension_free (use:=none) rfl hs (K.closure I.ok) K.kind K.names (dm (hi pins s σ H _ I h) fun v s1 h1=>dm h1 fun itv s2 h2=>?_)
 obtain⟨it,fp,tn,J,H2,e,I2,T,st2,f2,n,W,hsz,w0,turn⟩:=h2
 subst e
 refine xn (RR:=fun acc C=>compPost (model X.prog X.w) X.A X.xe none (EP X pins σ Q) acc C) K hc I2 he T st2 f2 hsz (F:=fun ys H=>∀ p,H p=none→Q (.ref p) (upd H p (.lst ys))) w0 turn ?_
 intro D C s' H' ys m I' n' fC ns fin
 refine⟨m,ns,fun h' sb=>?_⟩
 obtain⟨f0,f1,f2,f3,f4,f5⟩:=fC
 exact⟨.ref D,_,I'.turned (t':=s'.toks) (it:=C) (fun b o hb e=>(sb.2 b hb).trans e) f0 f1 f3 f4 f5,rfl,fin D n'⟩
theorem RJ {i:Nat}{y:Str}{spos py:Pos} (hN:X.N.Nodup) (hy:X.N[i]? = some y) (hl:Loc X.env.scope y) (K:dh X scope x M) (hc:X.calm=true) (hi:PI X (.Name x px) iter wi) (he:∀ (C:Addr) (s₂:Shared) (H₂:Hp) (fp:List Addr),PE (nq X scope C x M s₂ H₂ fp) elt te)
   (hsw:swapsWith (.ListComp elt [⟨.Name x px,iter,[],0⟩] scope pos) (some (.Name y py)) spos.line X.env=pure true:=by rfl)
   (hs:∀ x,foldedSetIterable iter X.env x=pure x:=by intro _;rfl) (hf:X.fn y=true∨X.env.scope.names.lookup y=some .local:=by first | exact .inl rfl | exact .inr rfl | assumption) :
   PS X (.Assign [.Name y py] (.ListComp elt [⟨.Name x px,iter,[],0⟩] scope pos) spos) (Lp (TV wi te) (dH i)):=by
 intro pins s σ H Dn I h
 rw [exec_Assign_Name_used _ _ _ _ hsw]
 refine wpAny_bind (wpAny_standAt (wpAny_bind ?_))
 show wpAny _ X.A (do let _ ← comprehension (.ListComp elt [⟨.Name x px,iter,[],0⟩] scope pos) scope X.env _ (newList []) false (eval iter X.env) (some (assign (.Name y py) X.env))) _ _ s
 refine wpAny_bind (dm (wpAny_comprehension_free (use:=some (assign (.Name y py) X.env)) (Q:=fun _ s'=>SP X pins Dn .next s') rfl hs (K.closure I.ok) K.kind K.names (dm (hi pins s σ H _ I h) fun v s1 h1=>dm h1 fun itv s2 h2=>?_)) fun _ s' hq=>wpAny_pure (wpAny_pure hq))
 obtain⟨it,fp,tn,J,H2,e,I2,T,st2,f2,n,W,hsz,w0,turn⟩:=h2
 subst e
 refine xn (RR:=fun acc C=>compPost (model X.prog X.w) X.A X.xe (some (assign (.Name y py) X.env)) (fun _ s'=>SP X pins Dn .next s') acc C) K hc I2 he T st2 f2 hsz (F:=fun ys H=>∀ p,H p=none→Dn.nx (σ.set i (some (.ref p))) (upd H p (.lst ys))) w0 turn ?_
 intro D C s' H' ys m I' n' fC ns fin
 refine wpAny_assign_Name (uz (v:=.ref D) I' hN hy hl rfl (fun s'' I'' ch=>?_) hf)
 obtain⟨f0,f1,f2,f3,f4,f5⟩:=fC
 obtain⟨a,sb1,ha⟩:=ch
 have hCa:C≠a:=by
   rcases ha with z | z
   · rw [z];exact f1
   · exact Ne.symm (f4 y a z)
 refine⟨m,ns.sameBut sb1 hCa,fun h' sb=>?_⟩
 exact⟨_,_,I''.turned (t':=s''.toks) (it:=C) (fun b o hb e=>(sb.2 b hb).trans e) f0 f1 f3 f4 f5,fin D n'⟩
end
end L2
namespace L2
open PySem PySem.Spec PyProof.Rows PySem.Calls
def S (l:List Nat):Str:=⟨l.toArray⟩
abbrev cd (x:Str):List Nat:=x.cps.toList
theorem Vt (l:List Nat):cd (S l)=l:=rfl
theorem Z0 (x:Str):S (cd x)=x:=by cases x;rfl
theorem TX (l:List Nat):(S l).length=l.length:=by show l.toArray.size=_;simp
theorem jQ (x:Str):x.length=(cd x).length:=by show x.cps.size=_;simp
theorem uF (x y:Str):cd (x++y)=cd x++cd y:=by
 show (x.cps++y.cps).toList=_
 simp
section
variable {X:Cx}{tg:Expr}
end
theorem Jb {lo:Int}{n:Nat}{te:TE}{σ:St}{H:Hp}{Q:VK} (hz:n≤sizeLine) (W:Nat→List V→Hp→Prop) (h0:W 0 [] H)
   (hs:∀ i ys H,i<n→ys.length=i→W i ys H→te (some (.int (lo+i))::σ) H fun v H'=>W (i+1) (ys++[v]) H')
   (hd:∀ ys H,ys.length=n→W n ys H→∀ p,H p=none→Q (.ref p) (upd H p (.lst ys))) :
   ∃ (m:Nat) (W:Nat→List V→Hp→Prop),m≤sizeLine∧W 0 [] H∧∀ i ys H,i≤m→ys.length=i→W i ys H →
     ((Nx lo n).stop i H∧∀ p,H p=none→Q (.ref p) (upd H p (.lst ys)))∨((Nx lo n).go i H∧i<m∧∀ v H',(Nx lo n).Ih i H v H'→te (some v::σ) H' fun v HY=>W (i+1) (ys++[v]) HY):=by
 refine⟨n,W,hz,h0,fun i ys H hi hl hw=>?_⟩
 by_cases hlt:i<n
 · refine .inr ⟨hlt,hlt,fun v H' y=>?_⟩
   obtain⟨e,y⟩:=y
   subst e y
   exact hs i ys _ hlt hl hw
 · have e:i=n:=by omega
   subst e
   exact .inl ⟨Nat.le_refl _,hd ys H hl hw⟩
theorem Mh {K:PySem.W.Frag}{a:Addr}{xs:List V}{te:TE}{σ:St}{H:Hp}{Q:VK} (hz:xs.length≤sizeLine) (W:Nat→List V→Hp→Prop) (h0:W 0 [] H) (hq:∀ i ys H,W i ys H→b7 K H a xs)
   (hs:∀ i x ys H,xs[i]? = some x→ys.length=i→W i ys H→te (some x::σ) H fun v H'=>W (i+1) (ys++[v]) H')
   (hd:∀ ys H,ys.length=xs.length→W xs.length ys H→∀ p,H p=none→Q (.ref p) (upd H p (.lst ys))) :
   ∃ (m:Nat) (W:Nat→List V→Hp→Prop),m≤sizeLine∧W 0 [] H∧∀ i ys H,i≤m→ys.length=i→W i ys H →
     ((Nv K a).stop i H∧∀ p,H p=none→Q (.ref p) (upd H p (.lst ys)))∨((Nv K a).go i H∧i<m∧∀ v H',(Nv K a).Ih i H v H'→te (some v::σ) H' fun v HY=>W (i+1) (ys++[v]) HY):=by
 refine⟨xs.length,W,hz,h0,fun i ys H hi hl hw=>?_⟩
 have q:=hq i ys H hw
 by_cases hlt:i<xs.length
 · refine .inr ⟨⟨xs,xs[i],q,by simp [hlt]⟩,hlt,fun v H' y=>?_⟩
   obtain⟨e,y⟩:=y
   subst e
   exact hs i v ys _ (y xs q) hl hw
 · have e:i=xs.length:=by omega
   subst e
   exact .inl ⟨⟨xs,q,Nat.le_refl _⟩,hd ys H hl hw⟩
section
variable {X:Cx}
theorem Oh (hc:X.calm=true):cL X (.builtin "all") (fun xs H Q=>∃ (p:Addr) (bs:List Bool),xs=[.ref p]∧b7 X.K H p (bs.map V.bl)∧Q (.bl (bs.all id)) H):=by
 intro pins s σ H xs us Q I r h
 obtain⟨p,bs,rfl,hq,q⟩:=h
 obtain⟨u,rfl,ru⟩:=vals1 r
 cases ru
 obtain⟨its,rv,pl,hz⟩:=I.list hq
 have hlt:p<s.heap.objs.size:=by obtain⟨o,n,e,_⟩:=pl;exact Heap.lt_size e
 refine call_all_walk (wpAny_pyIter_list pl.isList ?_)
 refine⟨_,_,_,_,_,_,fun i=>bs.getD i false,rfl,Walks.list (show X.A.in1.handled=none from I.ok.hd hc) s.heap.objs.size p (Nat.ne_of_lt hlt) its.toArray,⟨⟨_,Heap.get?_push_size _ rfl,rfl,rfl⟩,pl.isList.push _⟩,fun i v s1 Q1 E1 hP hQ=>?_,fun h' tk k=>?_⟩
 · have hP':its[i]? = some v:=by simpa using hP
   obtain⟨hi,_⟩:=List.getElem?_eq_some_iff.mp hP'
   have hl:=rv.length
   rw [List.length_map] at hl
   have hb:(bs.map V.bl)[i]? = some (V.bl (bs.getD i false)):=by
     rw [List.getElem?_map,List.getElem?_eq_getElem (by omega)]
     simp [List.getD,List.getElem?_eq_getElem (show i<bs.length by omega)]
   obtain⟨u,hu,ru⟩:=rv.get hb
   rw [hP'] at hu
   cases hu
   cases (show v=Value.bool _ from ru)
   exact wpAny_truthy_bool hQ
 · have e:(List.range its.toArray.size).all (fun i=>bs.getD i false)=bs.all id:=by
     have hl:=rv.length
     rw [List.length_map] at hl
     rw [List.size_toArray,← hl]
     have z:bs=(List.range bs.length).map fun i=>bs.getD i false:=by
       apply List.ext_getElem?
       intro i
       rw [List.getElem?_map]
       by_cases hi:i<bs.length
       · simp [List.getElem?_eq_getElem,hi,List.getD]
       · rw [List.getElem?_eq_none (Nat.not_lt.mp hi),List.getElem?_eq_none (by rw [List.length_range];exact Nat.not_lt.mp hi)];rfl
     conv=>rhs;rw [z]
     rw [List.all_map];rfl
   rw [e]
   refine⟨.bl (bs.all id),H,?_,rfl,q⟩
   have I0:Inv X pins σ H { s with heap:=s.heap.push { cls:=.type "list_iterator",data:=.fields #[.ref p,.int 0 0] } }:=I.kept (t':=s.toks) fun b o e=>Heap.get?_push_of_some _ e
   have fo:=I.Ii (H':=H) (b:=s.heap.objs.size) (Nat.le_refl _) I.fresh
   obtain⟨f0,f1,f2,f3,f4,f5⟩:=fo
   exact I0.turned (t':=tk) (it:=s.heap.objs.size) (fun b o hb e=>k b o (by simpa using hb) e) f0 f1 f3 f4 f5
theorem Df:jb X (binaryOp .Mult) (rI (fun i j=>Builtin.Int.intBits i≤60000000∧Builtin.Int.intBits j≤60000000) fun i j=>.int (i*j)):=opI fun i j _ _ _ _ _ hc q=>mul_int q (IntMulOk.of_le hc.1 hc.2 (by decide))
def Z1 (xs:List Nat) (lo hi:Option Int):List Nat:=(xs.drop (HT.Ep xs.length 0 lo)).take (HT.Ep xs.length xs.length hi - HT.Ep xs.length 0 lo)
end
end L2
namespace Att
open PySem PySem.W PySem.Calls PyProof.Rows
theorem FN {ns:List Int} (h:WData.layableAll [WData.list (ns.map WData.int)]=true):∀ n∈ns,Builtin.Int.intBits n≤1048576:=by
 have h1:(WData.list (ns.map WData.int)).layable=true:=by simpa [WData.layableAll] using h
 intro n hn
 have h2:=layableW_item h1 (.int n) (List.mem_map.mpr ⟨n,hn,rfl⟩)
 have h3:=(layableW_iff.mp h2).2.2
 simpa [WData.weight,Builtin.Int.intBits] using h3
theorem Dg {l:OpenLaw}{n:Nat}{q:Program}{loose:List Str}{XP:(Str→Option Value)→Heap→Prop}{YP:World→Heap→Prop}{d:DefRec}
   (hn:l.most=some n) (hdf:d.params.defaults=[])
   (call:∀ (w:World) (s₀ s₁:Shared) (mg mb:Str→Option Value) (fa:Addr) (o:Obj) (pm cd doc:Value) (a:Addr) (vs:List Value) (ns:List Int),
     Ground q loose [] XP w s₀ mg mb s₁.heap→YP w s₁.heap →
     s₁.heap.get? fa=some o→o.data=.func (docDef d.name d.params d.body d.scope pm cd doc)→s₁.heap.CodeRec cd d.name→mg d.name=some (.ref fa) →
     s₁.heap.get? a=some { cls:=.type "list",data:=.seq vs.toArray }→IntsAre vs ns→ns.length≤n→(∀ n∈ns,Builtin.Int.intBits n≤1048576)→s₁.gens=#[] →
     codeAny (model l.prog w) callerA (.call (.ref fa) ⟨[.ref a],[]⟩) (fun r s'=>r=.ok (.ret (.bool true))∧OldK s₁.heap s'.heap∧s'.os=s₁.os∧AllBare s'.gens) s₁) :
   WalkO q loose XP YP l.row.toRowW d [] (fun f vs=>PySem.call f vs):=by
 intro w s₀ s₁ mg mb G Y fa o pm cd doc dV kV ho hd hcd hD hmg hg args vals as hpre hlay hrd hwl hlo
 obtain rfl:dV=.none:=Dflts.none hD hdf
 obtain rfl:kV=.none:=Dflts.noKw hD
 obtain⟨a,vs,ns,rfl,rfl,hobj,hints,hlen⟩:=LR hn hpre hwl
 refine enter_call (codeAny_mono (call w s₀ s₁ mg mb fa o pm cd doc a vs ns G Y ho (fd_plain hd) hcd hmg hobj hints hlen (FN hlay) hg) fun r s' hq=>?_)
 obtain⟨rfl,h2,h3,h4⟩:=hq
 exact⟨.inl ⟨.bool true,.bool true,[],rfl,fun _=>rfl,.bool true,Ma l _,fun _=>⟨List.Pairwise.nil,fun _ hm=>(nomatch hm)⟩⟩,h2,h3,h4⟩
end Att
namespace L2
open PySem PySem.Spec PyProof.Rows
def xq (mg:Str→Option Value) (x:Str) (v:V):Prop:=∃ u,mg x=some u∧RelV v u
theorem vI {X:Cx}{x:Str}{v:V}{pos:Pos} (hg:Gl X x) (h:xq X.mg x v) (hd:(x == ("__debug__":Str))=false:=by decide):PE X (.Name x pos) (tC v):=by
 obtain⟨u,hm,r⟩:=h
 exact Rf hg hm r hd
theorem ik.mod {K:PySem.W.Frag}{a:Addr}{oc:Value}{od:Option Addr}{its:Array Value}{n:Nat}{sl:Array (Option Value)}{xs:List V} (h:K.lookup a=some ⟨oc,od,.seq its n,sl⟩) (hc:oc=.type "tuple") (hz:its.size≤sizeLine) (hv:Vals xs its.toList) (H:Hp):ik K H a xs :=
 .inr ⟨_,its,n,h,hc,rfl,hz,hv⟩
theorem aB.tup {K:PySem.W.Frag}{H H':Hp}{a:Addr}{xs:List V} (e:aB H H') (h:ik K H a xs):ik K H' a xs:=by
 rcases h with (h | ⟨o,h⟩) | h
 · exact .inl (.inl (e _ _ h))
 · exact .inl (.inr ⟨o,e _ _ h⟩)
 · exact .inr h
theorem zF {H:Hp}{p:Addr} (h:H p=none) (o:HO):aB H (upd H p o):=fun b u q=>by rw [zI (zH q h)];exact q
namespace Bt
theorem int:bootBuiltins "int" = some (.type "int"):=PyProof.Rows.boot_int
theorem bool:bootBuiltins "bool" = some (.type "bool"):=PyProof.Rows.boot_bool
theorem str:bootBuiltins "str" = some (.type "str"):=PyProof.Rows.boot_str
theorem list:bootBuiltins "list" = some (.type "list"):=PyProof.Rows.boot_list
theorem tuple:bootBuiltins "tuple" = some (.type "tuple"):=PyProof.Rows.boot_tuple
theorem dict:bootBuiltins "dict" = some (.type "dict"):=PyProof.Rows.boot_dict
theorem set:bootBuiltins "set" = some (.type "set"):=PyProof.Rows.boot_set
theorem isinstance:bootBuiltins "isinstance" = some (.builtin "isinstance"):=PyProof.Rows.boot_isinstance
theorem all:bootBuiltins "all" = some (.builtin "all"):=PyProof.Rows.boot_all
theorem abs:bootBuiltins "abs" = some (.builtin "abs"):=PyProof.Rows.Boot.«abs»
end Bt
end L2
namespace L2
open PySem PySem.Spec PyProof.Rows
abbrev ib (x:Int):Nat:=Builtin.Int.intBits x
theorem Oi {x:Int} (h1:-(2 ^ 64)<x) (h2:x<2 ^ 64):ib x≤64:=intBits_le_64 h1 h2
theorem Vu {m:Nat}{x:Int} (h:x.natAbs<2 ^ m):ib x≤m:=intBits_le_iff.mpr h
theorem wU {α:Type}{l:List α}{i:Int} (h0:0≤i) (h1:i<l.length):∃ c,jc l i=some c∧l[i.toNat]? = some c:=by
 have hk:i.toNat<l.length:=by omega
 refine⟨l[i.toNat],?_,List.getElem?_eq_getElem hk⟩
 have e:i=((i.toNat:Nat):Int):=by omega
 have q:jc l ((i.toNat:Nat):Int)=some l[i.toNat]:=zP (List.getElem?_eq_getElem hk)
 rw [← e] at q
 exact q
theorem aB.ty {K:PySem.W.Frag}{H H':Hp}{x:V}{t:Value} (e:aB H H') (h:aF K H x t):aF K H' x t:=by
 cases h with
 | non=>exact .non
 | bl x=>exact .bl x
 | int i=>exact .int i
 | str x=>exact .str x
 | flt x=>exact .flt x
 | lst q=>exact .lst (e _ _ q)
 | qp q=>exact .qp (e _ _ q)
 | tup q=>exact .tup (e _ _ q)
 | dK q=>exact .dK (e _ _ q)
 | dT q=>exact .dT (e _ _ q)
 | ins q a b c d f=>exact .ins (e _ _ q) a b c d f
theorem yJ {n m:Nat} (h:n≤m) (hm:m≤16777216:=by decide):n≤sizeLine:=by rw [sizeLine_eq];omega
structure Ky (J:It) (te:TE) (σ:St) (H1:Hp) (Q:VK):Prop where
 ex:∃ (n:Nat) (W:Nat→List V→Hp→Prop),n≤sizeLine∧W 0 [] H1∧∀ i ys H,i≤n→ys.length=i→W i ys H →
   (J.stop i H∧∀ p,H p=none→Q (.ref p) (upd H p (.lst ys)))∨(J.go i H∧i<n∧∀ x H',J.Ih i H x H'→te (some x::σ) H' fun v HY=>W (i+1) (ys++[v]) HY)
def Oj (wi:TI) (te:TE):TE:=fun σ H Q=>wi σ H fun J H1=>Ky J te σ H1 Q
structure Vv (J:It) (g:TG) (tb:TS) (D:Ends) (σ:St) (H1:Hp):Prop where
 ex:∃ W:Nat→Nat→St→Hp→Prop,(∃ m,W 0 m σ H1)∧∀ i m σ H,W i m σ H →
   (J.stop i H∧D.nx σ H)∨(J.go i H∧∃ N:St→Hp→Prop,(∀ σ' H',N σ' H'→∃ m',m'<m∧W (i+1) m' σ' H')∧∀ x H',J.Ih i H x H'→g x σ H' fun σ2 H2=>tb { D with nx:=N,ct:=N,bk:=D.nx } σ2 H2)
def Z2 (wi:TI) (g:TG) (tb:TS):TS:=fun D σ H=>wi σ H fun J H1=>Vv J g tb D σ H1
structure Vw (c:TT) (tb:TS) (D:Ends) (σ:St) (H:Hp):Prop where
 ex:Nr c tb D σ H
def RK (c:TT) (tb:TS):TS:=fun D σ H=>Vw c tb D σ H
theorem PI.weak {X:Cx}{tg iter:Expr}{wi:TI} (h:PI X tg iter wi) {pins:List (Addr × Obj)}{s:Shared}{σ:St}{H:Hp}{R R':It→Hp→Prop} (I:Inv X pins σ H s) (hw:wi σ H R) (hR:∀ J H1,R J H1→R' J H1) :
   wpAny (model X.prog X.w) X.A (eval iter X.env) (fun v s1=>wpAny (model X.prog X.w) X.A (pyIter v) (PIE X pins σ tg R') X.xe s1) X.xe s:=by
 refine dm (h pins s σ H R I hw) fun v s1 h1=>dm h1 fun itv s2 zq=>?_
 obtain⟨it,fp,tn,J,H',e,I',T,st,f,r⟩:=zq
 exact⟨it,fp,tn,J,H',e,I',T,st,f,hR J H' r⟩
section
variable {X:Cx}{scope:Scope}{x:Str}{M:List Str}{elt iter:Expr}{px pos:Pos}{te:TE}{wi:TI}
theorem sU {tg:Expr}{wi wi':TI} (h:PI X tg iter wi) (hw:∀ σ H R,wi' σ H R→∃ R0,wi σ H R0∧∀ J H1,R0 J H1→R J H1):PI X tg iter wi':=by
 intro pins s σ H R I q
 obtain⟨R0,q0,hR⟩:=hw σ H R q
 exact h.weak I q0 hR
theorem xr (K:dh X scope x M) (hc:X.calm=true) (hi:PI X (.Name x px) iter wi) (he:∀ (C:Addr) (s₂:Shared) (H₂:Hp) (fp:List Addr),PE (nq X scope C x M s₂ H₂ fp) elt te)
   (hs:∀ x,foldedSetIterable iter X.env x=pure x:=by intro _;rfl):PE X (.ListComp elt [⟨.Name x px,iter,[],0⟩] scope pos) (Oj wi te):=by
 intro pins s σ H Q I h
 have q:=RG (pos:=pos) K hc (wi:=fun σ0 H0 R0=>∃ R,wi σ0 H0 R∧∀ J H1,R J H1→R0 J H1) (sU hi fun σ H R ⟨R1,a,b⟩=>⟨R1,a,b⟩) he hs pins s σ H Q I
 exact q ⟨_,h,fun J H1 r=>r.ex⟩
theorem FP {i:Nat}{y:Str}{spos py:Pos} (hN:X.N.Nodup) (hy:X.N[i]? = some y) (hl:Loc X.env.scope y) (K:dh X scope x M) (hc:X.calm=true) (hi:PI X (.Name x px) iter wi) (he:∀ (C:Addr) (s₂:Shared) (H₂:Hp) (fp:List Addr),PE (nq X scope C x M s₂ H₂ fp) elt te)
   (hsw:swapsWith (.ListComp elt [⟨.Name x px,iter,[],0⟩] scope pos) (some (.Name y py)) spos.line X.env=pure true:=by rfl)
   (hs:∀ x,foldedSetIterable iter X.env x=pure x:=by intro _;rfl) (hf:X.fn y=true∨X.env.scope.names.lookup y=some .local:=by first | exact .inl rfl | exact .inr rfl | assumption) :
   PS X (.Assign [.Name y py] (.ListComp elt [⟨.Name x px,iter,[],0⟩] scope pos) spos) (Lp (Oj wi te) (dH i)):=by
 intro pins s σ H D I h
 have q:=RJ (pos:=pos) (spos:=spos) hN hy hl K hc (wi:=fun σ0 H0 R0=>∃ R,wi σ0 H0 R∧∀ J H1,R J H1→R0 J H1) (sU hi fun σ H R ⟨R1,a,b⟩=>⟨R1,a,b⟩) he hsw hs hf pins s σ H D I
 exact q ⟨_,h,fun J H1 r=>r.ex⟩
theorem jd {tg:Expr}{body:List Stmt}{g:TG}{tb:TS} (hp:PassesOwn (model X.prog X.w) X.A X.env X.xe) (hc:X.calm=true) (hi:PI X tg iter wi) (hg:PG X tg g) (hb:nU X body tb)
   (hs:∀ x,foldedSetIterable iter X.env x=pure x:=by intro _;rfl):PS X (.For tg iter body [] pos) (Z2 wi g tb):=by
 intro pins s σ H D I h
 have q:=Vc (pos:=pos) hp hc (wi:=fun σ0 H0 R0=>∃ R,wi σ0 H0 R∧∀ J H1,R J H1→R0 J H1) (sU hi fun σ H R ⟨R1,a,b⟩=>⟨R1,a,b⟩) hg hb hs pins s σ H D I
 exact q ⟨_,h,fun J H1 r=>r.ex⟩
theorem Mi {c:Expr}{body:List Stmt}{tc:TT}{tb:TS} (hp:PassesOwn (model X.prog X.w) X.A X.env X.xe) (hc:PT X c tc) (hb:nU X body tb):PS X (.While c body [] pos) (RK tc tb):=fun pins s σ H D I h=>Nt hp hc hb pins s σ H D I h.ex
end
theorem oW {lo:Int}{n:Nat}{te:TE}{σ:St}{H:Hp}{Q:VK} (hz:n≤sizeLine) (W:Nat→List V→Hp→Prop) (h0:W 0 [] H)
   (hs:∀ i ys H,i<n→ys.length=i→W i ys H→te (some (.int (lo+i))::σ) H fun v H'=>W (i+1) (ys++[v]) H')
   (hd:∀ ys H,ys.length=n→W n ys H→∀ p,H p=none→Q (.ref p) (upd H p (.lst ys))):Ky (Nx lo n) te σ H Q:=⟨Jb hz W h0 hs hd⟩
theorem Jc {K:PySem.W.Frag}{a:Addr}{xs:List V}{te:TE}{σ:St}{H:Hp}{Q:VK} (hz:xs.length≤sizeLine) (W:Nat→List V→Hp→Prop) (h0:W 0 [] H) (hq:∀ i ys H,W i ys H→b7 K H a xs)
   (hs:∀ i x ys H,xs[i]? = some x→ys.length=i→W i ys H→te (some x::σ) H fun v H'=>W (i+1) (ys++[v]) H')
   (hd:∀ ys H,ys.length=xs.length→W xs.length ys H→∀ p,H p=none→Q (.ref p) (upd H p (.lst ys))):Ky (Nv K a) te σ H Q:=⟨Mh hz W h0 hq hs hd⟩
theorem xL {K:PySem.W.Frag}{a:Addr}{xs:List V}{g:TG}{tb:TS}{D:Ends}{σ:St}{H:Hp} (Pv:Nat→St→Hp→Prop) (h0:Pv 0 σ H) (hl:∀ i σ H,i≤xs.length→Pv i σ H→b7 K H a xs)
   (hs:∀ i x σ H,xs[i]? = some x→Pv i σ H→g x σ H fun σ2 H2=>tb { D with nx:=Pv (i+1),ct:=Pv (i+1),bk:=D.nx } σ2 H2) (hd:∀ σ H,Pv xs.length σ H→D.nx σ H):Vv (Nv K a) g tb D σ H:=⟨Nz Pv h0 hl hs hd⟩
theorem xu {lo:Int}{n:Nat}{g:TG}{tb:TS}{D:Ends}{σ:St}{H:Hp} (Pv:Nat→St→Hp→Prop) (h0:Pv 0 σ H)
   (hs:∀ i σ H,i<n→Pv i σ H→g (.int (lo+i)) σ H fun σ2 H2=>tb { D with nx:=Pv (i+1),ct:=Pv (i+1),bk:=D.nx } σ2 H2) (hd:∀ σ H,Pv n σ H→D.nx σ H):Vv (Nx lo n) g tb D σ H:=⟨Lw Pv h0 hs hd⟩
theorem sV {α:Type}{f:α→V}{l:List α}{i:Nat}{x:V} (h:(l.map f)[i]? = some x):∃ a,l[i]? = some a∧x=f a:=by
 rw [List.getElem?_map] at h
 cases e:l[i]? with
 | none=>rw [e] at h;cases h
 | some a=>rw [e] at h;exact⟨a,rfl,(Option.some.inj h).symm⟩
theorem dJ {K:PySem.W.Frag}{a b:String}{r:Bool} (h:(if (Value.type a == Value.type b)=true then some true else if PySem.W.kitMeta b=true then (fastBuiltinMro a).map (·.contains (Value.type b)) else none)=some r):PySem.W.kitOne K (.type a) (.type b)=some r:=h
end L2
namespace L2
open PySem PySem.Spec PyProof.Rows PySem.Calls
def TrD (h base:Heap) (e:Addr) (cls:Value) (dct:Option Addr) (fl:Value):Prop :=
 ∃ oe vs T oT ts,h.get? e=some oe∧(oe.cls=cls∧oe.dict=dct)∧oe.data=.fields vs∧vs[1]? = some (.ref T)∧base.get? T=none∧T≠e∧h.get? T=some oT∧oT.data=.fields ts∧ts[3]? = some fl
def Z3 (base:Heap) (l:List Env) (e:Addr) (cls:Value) (dct:Option Addr) (fl:Value) (h:Heap):Prop :=
 base.StaysIn h∧base.get? e=none∧h.FunFrames base l∧TrD h base e cls dct fl
theorem Z3.there {base h:Heap}{l:List Env}{e:Addr}{cls fl:Value}{dct:Option Addr} (x:Z3 base l e cls dct fl h):∃ ob,h.get? e=some ob∧ob.cls=cls∧ob.dict=dct∧∃ vs,ob.data=.fields vs:=by
 obtain⟨_,_,_,oe,vs,_,_,_,he,hc,hd,_⟩:=x
 exact⟨oe,he,hc.1,hc.2,vs,hd⟩
section
variable {M:Model}{A:Around}{E:Value→Shared→Prop}{s:Shared}
end
end L2
namespace L2
open PySem PySem.Spec PyProof.Rows PySem.Calls
structure Z4 (outer:List Env) (H H':Hp) (h B h1:Heap):Prop where
 TY:∀ b o,h.get? b=some o→H b=none→b∉frs outer→B.get? b=some o
 Ol:∀ b o,h.get? b=some o→b∉frs outer→∃ o',B.get? b=some o'
 slot:∀ b o,h.get? b=some o→H b=none→b∈frs outer→∃ sl,h1.get? b=some { o with slots:=sl }
 free:∀ b o,h.get? b=some o→H b=none→H' b=none
 tups:∀ b xs,H b=some (.tup xs)→H' b=some (.tup xs)
 lZ:∀ b o u,H b=some (.qp o u)→H' b=some (.qp o u)
 mU:∀ b ps,H b=some (.lD ps)→∃ more,H' b=some (.lD (ps++more))
theorem Z4.step {outer:List Env}{H H':Hp}{h B h1 h2 base:Heap} (x:Z4 outer H H' h B h1) (fr:h1.FunFrames base outer) (up:h1.UpToSlots h2):Z4 outer H H' h B h2 :=
 ⟨x.TY,x.Ol,fun b o e n hb=>by
   obtain⟨sl,q⟩:=x.slot b o e n hb
   obtain⟨_,o',ho',hd'⟩:=fr.mem hb
   rw [q] at ho';cases ho'
   obtain⟨sl',q'⟩:=up b _ q hd'
   exact⟨sl',q'⟩,x.free,x.tups,x.lZ,x.mU⟩
theorem Z4.un {outer:List Env}{H H':Hp}{h B h1:Heap} (x:Z4 outer H H' h B h1) (st:B.StaysIn h1) (fr:h1.FunFrames B outer):Un (frs outer) [] H H' h h1 :=
 ⟨fun b o e n hb _=>st b o (x.TY b o e n hb),fun b o e n hb _=>x.slot b o e n hb,fun b o e n _=>x.free b o e n,fun b o e _=>by
   by_cases hb:b∈frs outer
   · obtain⟨_,o',ho',_⟩:=fr.mem hb
     exact⟨o',ho'⟩
   · obtain⟨o',q⟩:=x.Ol b o e hb
     exact⟨o',st b o' q⟩,x.tups,x.lZ,x.mU⟩
section
variable {P:Program}{w:World}{K:PySem.W.Frag}{mg:Str→Option Value}{base:Heap}{N:List Str}{qual:Str}{scope:Scope}{f:Addr}{cdv:Value}{A:Around}{outer:List Env}{s:Shared}{H:Hp}{E:XK}
end
section
variable {P:Program}{w:World}{K:PySem.W.Frag}{mg:Str→Option Value}{base:Heap}
end
end L2
namespace L2
open PySem PySem.Spec PyProof.Rows PySem.Calls PySem.W PySem.Builtin PySem.Builtin.ObjectAttr PySem.Builtin.Getset_descriptor
section
variable {prog:Program}{w:World}{A:Around}{E:Value→Shared→Prop}{s:Shared}{K:PySem.W.Frag}{x D:Addr}
def ClsAt (h:Heap) (x D:Addr):Prop:=∃ o,h.get? x=some o∧o.cls=.ref D
theorem ClsAt.type {M:Model}{h:Heap} (p:ClsAt h x D):Looks M h (typeOf (.ref x)) (.ref D):=by
 obtain⟨o,e,c⟩:=p
 exact c ▸ (Looks.ld e).andThen .now
theorem Jd {M:Model}{h:Heap}{name:Str}{a g:Value} (X:K.In h) (hf:findIn K (.ref D) name=some (some a)) (hg:specialIn K a "__get__" = some (some g)) (ht:takesIn K a=some true):Looks M h (find (.ref x) (.ref D) name) (.bind g a):=by
 have l1:=looks_findIn (M:=M) X hf
 have l2:Looks M h (getOf (some a)) (some g):=looks_specialIn X hg
 have l3:=looks_takesIn (M:=M) X ht
 refine l1.andThen (l2.andThen ?_)
 have l4:Looks M h (dataDescriptor? (some a) (some g)) (some (g,a)):=l3.andThen .now
 exact l4.andThen (Looks.tag .now)
structure uG (K:PySem.W.Frag) (D:Addr):Prop where
 ga:findIn K (.ref D) "__getattribute__" = some (some (.builtin "BaseException.__getattribute__"))
 gk:findIn K (.ref D) "__getattr__" = some none
 cl:(clsIn K D).isSome=true
 ha:findIn K (.ref D) "__class__" = some (some (.builtin "object.__class__"))
 hn:specialIn K (.builtin "object.__class__") "__get__" = some (some (.builtin "getset_descriptor.__get__"))
 tk:takesIn K (.builtin "object.__class__")=some true
 mo:mroIn K D (.type "object")=some true
 mb:mroIn K D (.type "BaseException")=some true
theorem class_get {R:Result→Shared→Prop} (c:uG K D) (X:K.In s.heap) (p:ClsAt s.heap x D) (q:R (.ok (.ret (.ref D))) s) :
   codeAny (model prog w) A (.call (.builtin "getset_descriptor.__get__") ⟨[.builtin "object.__class__",.ref x,.ref D],[]⟩) R s:=by
 obtain⟨hh,g,d,t,os⟩:=s
 obtain⟨o,eo,ec⟩:=id p
 have t0:=p.type (M:=model prog w)
 have l1:=looks_mroIn (M:=model prog w) X c.mo
 have aj5:=KF.args_gs (Value.builtin "object.__class__") (Value.ref x) (Value.ref D)
 refine codeAny_call_builtin KF.slot_gs.plain KF.entry_gs
   (KF.slot_gs.check _ _ _ _ _ _ _ _ KF.type_class aj5 ?_)
 unfold Builtin.«getset_descriptor.__get__»
   descrGet
 rw [dga_obj];refine wpAny_bind (wpAny_pure ?_)
 unfold descrGetter descrCheckInstance
   descrNameAndClass isInstance
 simp only [KF.owner_class]; (repeat lk)
 refine⟨Code.quiet_builtin _
   (by symm),codeAny_builtin KF.entry_class ?_⟩
 unfold Builtin.«object.__class__»
   shownTypeOf
 (repeat lk);exact q
theorem Je {tk:Tok}{R:Result→Shared→Prop} (c:uG K D) (X:K.In s.heap) (p:ClsAt s.heap x D) (q:R (.ok (.ret (.ref D))) s) :
   codeAny (model prog w) A (.call (.builtin "BaseException.__getattribute__") ⟨[.ref x,.str "__class__" tk],[]⟩) R s:=by
 obtain⟨hh,g,d,t,os⟩:=s
 obtain⟨o,eo,ec⟩:=id p
 have t0:=p.type (M:=model prog w)
 have lb:=looks_mroIn (M:=model prog w) X c.mb
 have f0:=Jd (x:=x) (M:=model prog w) X c.ha c.hn c.tk
 have hk:builtinKind "BaseException.__getattribute__" = some .slot:=by symm
 have hsplit:splitId "BaseException.__getattribute__" = some ("BaseException","__getattribute__"):=by symm
 have ha:=F.args_bexc_ga (.ref x) (.str "__class__" tk)
 refine codeAny_call_builtin F.excAttr_ValueError.ga.plain F.entry_bexc_ga ?_
 simp only [checkBuiltinCall,hk,hsplit]
 unfold isInstance
 refine wpAny_bind ?_
 (repeat (first | (with_reducible refine wpAny_call (class_get c X p ?_)) | lk))
 exact q
theorem Om {Q:Option Value→Shared→Prop} (c:uG K D) (X:K.In s.heap) (p:ClsAt s.heap x D) (q:Q (some (.ref D)) { s with toks:=s.toks+1 }):wpAny (model prog w) A (getAttr? (.ref x) "__class__") Q E s:=by
 obtain⟨hh,g,d,t,os⟩:=s
 obtain⟨o,eo,ec⟩:=id p
 have t0:=p.type (M:=model prog w)
 have t1:=looks_findIn (M:=model prog w) X c.ga
 have f1:=looks_findIn (M:=model prog w) X c.gk
 have f3:=F.excAttr_ValueError.ga.bind (.ref x)
 unfold getAttr? getAttrBy? getAttrBy
 refine wpAny_bind (wpAny_mkText (wpAny_bind (wpAny_attempt (wpAny_holding (wpAny_bind (t0.at (wpAny_bind (t1.at ?_))))))))
 show wpAny _ _ (getAttrByItsOwn _ _ _ _ _ _) _ _ _
 unfold getAttrByItsOwn hookBefore
 refine wpAny_bind (f1.at (wpAny_bind (wpAny_attempt (wpAny_holding ?_))))
 show wpAny _ _ (boundAndCalled _ _ _) _ _ _
 unfold boundAndCalled
 rw [f3]
 refine wpAny_bind (wpAny_pure (wpAny_call ?_))
 refine Je c (s:=⟨hh,g,d,t+1,os⟩) X p ?_
 exact wpAny_pure (wpAny_pure q)
theorem Kz (c:uG K D):KitX K (.ref x) (.ref D) (fun h=>ClsAt h x D) where
 ty:=fun _ _ _ p=>p.type
 it:=fun _ _ X _=>by
   obtain⟨cd,e⟩:=Option.isSome_iff_exists.mp c.cl
   unfold clsIn at e
   split at e
   · rename_i c' d' cd' sl' ho
     intro A' Q' E' s' k q
     unfold isType loadHead
     exact wpAny_bind (wpAny_loadPart (k _ _ (X _ _ ho)) (wpAny_pure q))
   · cases e
 ne:=fun h tp dd its n sl X htp=>by
   obtain⟨cd,e⟩:=Option.isSome_iff_exists.mp c.cl
   refine Bool.eq_false_iff.mpr fun q=>?_
   have z:D=tp:=Value.ref.inj (beq_iff_eq.mp q)
   subst z
   unfold clsIn at e
   split at e
   · rename_i c' d' cd' sl' ho
     have z:=(X _ _ ho).symm.trans htp
     cases z
   · cases e
 ca:=fun X p k=>Om c X p k
end
def Z5 (a D:Addr):HO:=.ext fun h=>ClsAt h a D
def Z6 (a D dx:Addr):HO:=.ext fun h=>∃ o,h.get? a=some o∧o.cls=.ref D∧o.dict=some dx∧∃ vs,o.data=.fields vs
inductive QZ (K:PySem.W.Frag) (H:Hp):V→Value→Prop where
 | old {x:V}{t:Value} (h:aF K H x t):QZ K H x t
 | exc {a D:Addr} (h:H a=some (Z5 a D)) (c:uG K D):QZ K H (.ref a) (.ref D)
 | tpl {a:Addr}{xs:List V} (h:ik K H a xs):QZ K H (.ref a) (.type "tuple")
 | Vx {a D dx:Addr} (h:H a=some (Z6 a D dx)) (c:uG K D):QZ K H (.ref a) (.ref D)
def RL:V→Value
 | .ref a=>.ref a
 | .ty n=>.type n
 | _=>.none
def KC:V→Bool
 | .ref _=>true
 | .ty _=>true
 | _=>false
section
variable {X:Cx}{pins:List (Addr × Obj)}{σ:St}{H:Hp}{s:Shared}{A:Around}{E:Value→Shared→Prop}{Q:Value→Shared→Prop}{c:Value}{b:Bool}
theorem Oo {x:V}{u t:Value} (I:Inv X pins σ H s) (rx:RelV x u) (ty:QZ X.K H x t):(∃ P:Heap→Prop,KitX X.K u t P∧P s.heap)∧u≠.builtin "__main__.__loader__#opaque":=by
 cases ty with
 | @tpl a xs h =>
   cases (show u=Value.ref a from rx)
   obtain⟨its,r,pl,hz⟩:=I.tuple h
   obtain⟨o,h1,h2,_⟩:=pl
   exact⟨⟨_,kitx_tuple,⟨o,h1,h2⟩⟩,fun z=>nomatch z⟩
 | old ty =>
   cases ty with
   | non=>cases (show u=Value.none from rx);exact⟨⟨_,kitx_none,True.intro⟩,fun z=>nomatch z⟩
   | bl y=>cases (show u=Value.bool y from rx);exact⟨⟨_,kitx_bool,True.intro⟩,fun z=>nomatch z⟩
   | int i=>obtain⟨t,q⟩:=(show ∃ t,u=Value.int i t from rx);cases q;exact⟨⟨_,kitx_int,True.intro⟩,fun z=>nomatch z⟩
   | str y=>obtain⟨t,q⟩:=(show ∃ t,u=Value.str y t from rx);cases q;exact⟨⟨_,kitx_str,True.intro⟩,fun z=>nomatch z⟩
   | flt y=>obtain⟨t,q⟩:=(show ∃ t,u=Value.float y t from rx);cases q;exact⟨⟨_,kitx_float,True.intro⟩,fun z=>nomatch z⟩
   | @lst a xs ea =>
     cases (show u=Value.ref a from rx)
     obtain⟨_,_,n,_,h1⟩:=(show cu X.prog X.w H s.heap a (.lst xs) from I.hok a _ ea)
     exact⟨⟨_,kitx_list,⟨_,h1,rfl⟩⟩,fun z=>nomatch z⟩
   | @qp a ob xs ea =>
     cases (show u=Value.ref a from rx)
     obtain⟨_,_,_,n,_,h1⟩:=(show cu X.prog X.w H s.heap a (.qp ob (.lst xs)) from I.hok a _ ea)
     exact⟨⟨_,kitx_list,⟨_,h1,rfl⟩⟩,fun z=>nomatch z⟩
   | @tup a xs ea =>
     cases (show u=Value.ref a from rx)
     obtain⟨_,_,_,p⟩:=(show cu X.prog X.w H s.heap a (.tup xs) from I.hok a _ ea)
     obtain⟨o,h1,h2,_⟩:=p
     exact⟨⟨_,kitx_tuple,⟨o,h1,h2⟩⟩,fun z=>nomatch z⟩
   | @dK a kvs ea =>
     cases (show u=Value.ref a from rx)
     obtain⟨_,_,vs,_,p⟩:=(show cu X.prog X.w H s.heap a (.dK kvs) from I.hok a _ ea)
     obtain⟨o,es,ep,h1,h2,_⟩:=p
     exact⟨⟨_,kitx_dict,⟨o,h1,h2.1⟩⟩,fun z=>nomatch z⟩
   | @dT a kvs ea =>
     cases (show u=Value.ref a from rx)
     obtain⟨_,_,xs,_,o,es,ep,h1,h2,_⟩:=(show cu X.prog X.w H s.heap a (.dT kvs) from I.hok a _ ea)
     exact⟨⟨_,kitx_dict,⟨o,h1,h2.1⟩⟩,fun z=>nomatch z⟩
   | @ins a C dx fs ea cl ha hn htk hm =>
     cases (show u=Value.ref a from rx)
     obtain⟨mA,O,_⟩:=wO I.hok ea
     obtain⟨od,J,_⟩:=O.look
     exact⟨⟨_,kitx_own (cl.get _) cl.hd ha hn htk hm,J⟩,fun z=>nomatch z⟩
 | @exc a D h c =>
   cases (show u=Value.ref a from rx)
   obtain⟨p,_⟩:=(show cu X.prog X.w H s.heap a (Z5 a D) from I.hok a _ h)
   exact⟨⟨_,Kz c,p⟩,fun z=>nomatch z⟩
 | @Vx a D dx h c =>
   cases (show u=Value.ref a from rx)
   obtain⟨⟨o,e,k,_⟩,_⟩:=(show cu X.prog X.w H s.heap a (Z6 a D dx) from I.hok a _ h)
   exact⟨⟨_,Kz c,⟨o,e,k⟩⟩,fun z=>nomatch z⟩
theorem FQ {x:V}{u:Value} (h:KC x=true) (r:RelV x u):u=RL x:=by
 cases x with
 | ref a=>exact r
 | ty n=>exact r
 | _=>cases h
theorem BZ:∀ {xs:List V}{us:List Value},xs.all KC=true→Vals xs us→us=xs.map RL
 | [],_,_,.nil=>rfl
 | x::xs,_,h,.cons r rs=>by
   rw [List.all_cons,Bool.and_eq_true] at h
   rw [FQ h.1 r,BZ h.2 rs];rfl
theorem yS:cL X (.builtin "isinstance") (fun xs H Q=>∃ x y t b,xs=[x,y]∧KC y=true∧QZ X.K H x t∧PySem.W.kitOne X.K t (RL y)=some b∧Q (.bl b) H):=by
 intro pins s σ H xs us Q I r h
 obtain⟨x,y,t,b,rfl,hc,ty,e,q⟩:=h
 obtain⟨u,w',rfl,rx,ry⟩:=vals2 r
 obtain rfl:=FQ hc ry
 obtain⟨⟨P,Z,p⟩,nb⟩:=Oo I rx ty
 exact kia_one Z I.wY p e nb fun tk=>⟨.bl b,H,I.tok _,rfl,q⟩
theorem qd:cL X (.builtin "isinstance") (fun xs H Q=>∃ x tp cs t b,xs=[x,.ref tp]∧H tp=some (.tup cs)∧cs.all KC=true∧QZ X.K H x t∧PySem.W.kitAny X.K t (cs.map RL)=some b∧Q (.bl b) H):=by
 intro pins s σ H xs us Q I r h
 obtain⟨x,tp,cs,t,b,rfl,ht,hc,ty,e,q⟩:=h
 obtain⟨u,w',rfl,rx,ry⟩:=vals2 r
 cases ry
 obtain⟨⟨P,Z,p⟩,nb⟩:=Oo I rx ty
 obtain⟨_,its,rv,o,ho,hcl,n,hd⟩:=(show cu X.prog X.w H s.heap tp (.tup cs) from I.hok tp _ ht)
 obtain rfl:=BZ hc rv
 obtain⟨oc,od,oda,osl⟩:=o
 dsimp only at hcl hd
 subst hcl hd
 exact kia_tup Z I.wY p ho e nb fun tk=>⟨.bl b,H,I.tok _,rfl,q⟩
end
end L2
namespace L2
open PySem PySem.Spec PyProof.Rows PySem.Calls PySem.W
abbrev T3:List Value:=[.type "ValueError",.type "Exception",.type "BaseException",.type "object"]
section
variable {P:Program}{w:World}{K:PySem.W.Frag}{mg:Str→Option Value}{base:Heap}{N:List Str}{qual:Str}{scope:Scope}{f:Addr}{cdv:Value}{A:Around}{outer:List Env}{s:Shared}{H:Hp}{E:XK}
end
abbrev TSx:=Ends→(St→XK)→St→Hp→Prop
section
variable {X:Cx}{k:Nat}{f C:Addr}{fd:FuncData}{ps:List Str}{sp:Sp}{qX:List V}{ds:List Value}{x m:Str}{p pos apos:Pos}{e o:Expr}{es:List Expr}{ta:TE}{t:TA}
theorem PA.Aj {es:List Expr}{t:TA} (h:PA X.Aj es t) (E:Value→Shared→Prop) {pos:Pos}{pins:List (Addr × Obj)}{s:Shared}{σ:St}{H:Hp}{Q:List V→Hp→Prop} (I:Inv X pins σ H s) (q:t σ H Q) :
   wpAny (model X.prog X.w) X.A (spliced (backTo pos (starEach es X.env))) (AP X pins σ Q) E s :=
 wpAny_mono (h pos pins s σ H Q (I.wish _) q) (fun _ _ ⟨vs,H',I',r,q⟩=>⟨vs,H',I'.jo,r,q⟩) fun _ _ z=>False.elim z
end
def hcx (X:Cx) (e:Addr):Cx:={ X with A:=X.A.mark (some (.ref e)),calm:=false,xe:=fun _ _=>False }
section
variable {X:Cx}{body suite:List Stmt}{b₀:Stmt}{x:Str}{C:Addr}{np hpos pos:Pos}{tb:TSx}{th:TS}
end
end L2
namespace L2
open PySem PySem.Spec PyProof.Rows PySem.Calls PySem.W
section
variable {X:Cx}{pins:List (Addr × Obj)}{σ:St}{H:Hp}{s:Shared}
end
section
variable {X:Cx}{body suite:List Stmt}{b₀:Stmt}{x n:Str}{C:Addr}{np hpos pos:Pos}{tb:TSx}{th:TS}{j:Nat}
end
end L2
namespace L2
open PySem PySem.Spec PyProof.Rows PySem.Calls
section
variable {X:Cx}
def jR (l:List Nat):Nat→List Nat
 | 0=>[]
 | k+1=>jR l k++l
theorem xx (l:List Nat):∀ k,(jR l k).length=k*l.length
 | 0=>by simp [jR]
 | k+1=>by rw [jR,List.length_append,xx l k,Nat.succ_mul]
theorem Oq (x:Str) (k:Nat):(⟨(List.replicate k x.cps).foldl (· ++ ·) #[]⟩:Str)=S (jR (cd x) k):=by
 have g:∀ k,(List.replicate k x.cps).foldl (· ++ ·) #[]=(jR (cd x) k).toArray:=fun k=>by
   induction k with
   | zero=>rfl
   | succ k ih=>rw [List.replicate_succ',List.foldl_append,ih];show _++x.cps=_;rw [jR];apply Array.ext';simp [cd]
 rw [g];rfl
theorem xT:jb X (binaryOp .Mult) (fun x y H Q=>∃ z n,x=.str z∧y=.int n∧0≤n∧n≤1000000∧z.length*n.toNat≤1000000∧z.length≤1000000∧Q (.str (S (jR (cd z) n.toNat))) H):=by
 intro pins s σ H x y v u Q I rx ry h
 obtain⟨z,n,rfl,rfl,h0,h1,h2,h3,q⟩:=h
 obtain⟨t,rfl⟩:=rx
 obtain⟨t',rfl⟩:=ry
 have tl:Builtin.Str.tooLong (z.length*n.toNat)=false:=by
   unfold Builtin.Str.tooLong
   exact decide_eq_false (by rw [sizeLine_eq];omega)
 refine P.mul_str ?_ ?_ (fun _ _=>tl) ?_
 · rw [decide_eq_false (by omega),decide_eq_false (by omega)];rfl
 · intro hn _ hgt
   have:(2 ^ 63 - 1:Int) / n ≥ 1000000:=by
     have:(1000000:Int)*n≤2 ^ 63 - 1:=by omega
     exact Int.le_ediv_of_mul_le (by omega) this
   omega
 · have fin:∀ y:Str,y=S (jR (cd z) n.toNat)→∀ t tk,EP X pins σ Q (.str y t) { s with toks:=tk }:=fun y e t tk=>by
     subst e;exact⟨.str _,H,I.tok _,⟨_,rfl⟩,q⟩
   by_cases hn:n<1
   · rw [if_pos hn]
     have e0:n=0:=by omega
     subst e0
     exact⟨by rw [sizeLine_eq];exact Nat.zero_le _,fin _ rfl _ _⟩
   · rw [if_neg hn]
     by_cases h1:(n == 1 || z.length == 0)=true
     · rw [if_pos h1]
       refine fin z ?_ t s.toks
       rcases Bool.or_eq_true_iff.mp h1 with e | e
       · have e':n=1:=by simpa using e
         subst e'
         show z=S (jR (cd z) 1)
         rw [show jR (cd z) 1=cd z from by simp [jR],Z0]
       · have e':(cd z)=[]:=List.eq_nil_of_length_eq_zero (by rw [← jQ];simpa using e)
         have:∀ k,jR [] k=[]:=fun k=>by induction k with | zero=>rfl | succ k ih=>simp [jR,ih]
         rw [e',this,← e',Z0]
     · rw [if_neg h1]
       refine⟨?_,fin _ (Oq z n.toNat) _ _⟩
       rw [Oq,TX,xx,← jQ,sizeLine_eq,Nat.mul_comm]
       omega
end
end L2
namespace L2
open PySem PySem.Spec PyProof.Rows PySem.Calls
structure Jf (K:PySem.W.Frag) (x qual:Str) (st:Stmt) (ds:List Value) (f:Addr) (fd:FuncData):Prop where
 ex:∃ (T:Addr) (oc:Value) (od:Option Addr) (kV doc pm:Value) (an:Option Addr) (cdv ct:Value) (osl:Array (Option Value)) (to:Obj) (n:Nat),
   fd=PySem.W.fnOf x qual (ak st) (aj st) (aa st) (.ref T) kV doc pm an cdv ct∧K.lookup f=some ⟨oc,od,.func fd,osl⟩∧PySem.W.codeIn K cdv qual=true∧K.lookup T=some to∧to.cls=.type "tuple"∧to.data=.seq ds.toArray n
 kp:PySem.W.keepIn K (.ref f)=true
section
variable {P:Program}{w:World}{K:PySem.W.Frag}{mg:Str→Option Value}{base:Heap}{x qual:Str}{st:Stmt}{f:Addr}{fd:FuncData}{N ps:List Str}{k:Nat}{sp:Sp}{ds:List Value}
theorem Jf.ok (F:Jf K x qual st ds f fd) (S:az N ps (aa st)) (len:∀ vs H Q E,sp vs H Q E→vs.length=ps.length)
   (hbody:∀ (cdv:Value) (A:Around) (outer:List Env) (s:Shared) (H:Hp) (vs:List V) (Q:VK) (E:XK),dO k (A.deeper (envOfC qual (aa st) s.heap.objs.size f cdv))→sp vs H Q E →
     ∃ t,nU (Fe b8 P w K mg base N qual (aa st) f cdv A outer s H E).Aj (aj st) t∧t { nx:=fun _ H'=>Q .non H',rt:=Q } (start N vs) H):bw P w K mg base b8 (k+1) f fd ps sp:=by
 obtain⟨T,oc,od,kV,doc,pm,an,cdv,ct,osl,to,n,rfl,lk,hcd,_⟩:=F.ex
 refine N6 lk hcd S len fun A outer s H vs Q E hr hsp=>?_
 obtain⟨t,h,q⟩:=hbody cdv A outer s H vs Q E hr hsp
 exact⟨t,h.Aj,q⟩
theorem Jf.binds {es:List Value} (F:Jf K x qual st ds f fd)
   (h:∀ (T:Addr) (kV doc pm:Value) (an:Option Addr) (cdv ct:Value) (us:List Value) (M:Model) (A:Around) (E:Value→Shared→Prop) (Q:List (Str × Value)→Shared→Prop) (s:Shared) (to:Obj) (n:Nat),s.heap.get? T=some to→to.cls=.type "tuple"→to.data=.seq ds.toArray n →
     (us++es).length=ps.length→Q (ps.zip (us++es)) s→wpAny M A (bindArgs (PySem.W.fnOf x qual (ak st) (aj st) (aa st) (.ref T) kV doc pm an cdv ct) ⟨us,[]⟩) Q E s):Binds K fd ps es:=by
 obtain⟨T,oc,od,kV,doc,pm,an,cdv,ct,osl,to,n,rfl,lk,hcd,lt,tc,td⟩:=F.ex
 intro s us X hl M A E Q q
 exact h T kV doc pm an cdv ct us M A E Q s to n (X _ _ lt) tc td hl q
end
section
variable {K:PySem.W.Frag}{C D:Addr}{cd:ClassData}{r b:Bool}{T:String}
theorem sW:PySem.W.kitOne K (.ref D) (.ref D)=some true:=by unfold PySem.W.kitOne;rw [if_pos (beq_self_eq_true _)]
theorem Jg (h1:PySem.W.clsIn K C=some cd) (h2:PySem.W.typeIn K (.ref C)=some (.type "type")) (h3:PySem.W.mroIn K D (.ref C)=some r):PySem.W.kitCls K (.ref D) (.ref C)=some r:=by
 show (if ((PySem.W.clsIn K C).isSome && PySem.W.typeIn K (.ref C) == some (.type "type"))=true then PySem.W.mroIn K D (.ref C) else none)=some r
 rw [h1,h2,h3];rfl
theorem Dh (h1:PySem.W.clsIn K C=some cd) (h2:PySem.W.typeIn K (.ref C)=some (.type "type")) (h3:PySem.W.mroIn K D (.ref C)=some r) (hne:(Value.ref D == Value.ref C)=false):PySem.W.kitOne K (.ref D) (.ref C)=some r:=by
 unfold PySem.W.kitOne
 rw [if_neg (by rw [hne];decide)]
 exact Jg h1 h2 h3
theorem Di {α:Type}{us ds:List α}{n m:Nat} (h:(us++ds).length=n) (hm:ds.length+m=n):us.length=m:=by rw [List.length_append] at h;omega
theorem sX {x qual:Str}{st:Stmt}{f T:Addr}{oc:Value}{od an dd:Option Addr}{osl dsl:Array (Option Value)}{kV doc pm cdv ct:Value}{ds:List Value}{n:Nat} (l:K.lookup f=some ⟨oc,od,.func (PySem.W.fnOf x qual (ak st) (aj st) (aa st) (.ref T) kV doc pm an cdv ct),osl⟩)
   (c:PySem.W.codeIn K cdv qual=true) (k:PySem.W.keepIn K (.ref f)=true) (lt:K.lookup T=some ⟨.type "tuple",dd,.seq ds.toArray n,dsl⟩):Jf K x qual st ds f (PySem.W.fnOf x qual (ak st) (aj st) (aa st) (.ref T) kV doc pm an cdv ct) :=
 ⟨⟨T,oc,od,kV,doc,pm,an,cdv,ct,osl,_,n,rfl,l,c,lt,rfl,rfl⟩,k⟩
end
end L2
namespace L2
theorem Bt.ValueError:PySem.bootBuiltins "ValueError" = some (.type "ValueError"):=PyProof.Rows.Boot.«ValueError»
open PySem PySem.Spec PyProof.Rows
def val (l:List Nat):Int:=l.foldl (fun a c=>a*10+((c - 48:Nat):Int)) 0
structure sY (n:Nat) (z:Str):Prop where
 len:z.length≤n
 cod:∀ c∈cd z,c<1000
theorem sY.mono {n m:Nat}{z:Str} (h:sY n z) (l:n≤m):sY m z:=⟨Nat.le_trans h.len l,h.cod⟩
theorem sY.app {n m:Nat}{x y:Str} (h:sY n x) (k:sY m y):sY (n+m) (x++y):=by
 refine⟨?_,fun c hc=>?_⟩
 · rw [jQ,uF,List.length_append,← jQ,← jQ];have:=h.len;have:=k.len;omega
 · rw [uF] at hc
   rcases List.mem_append.mp hc with e | e
   · exact h.cod c e
   · exact k.cod c e
theorem sY.cut {n:Nat}{z:Str} (h:sY n z) (lo hi:Option Int):sY n (S (Z1 (cd z) lo hi)):=by
 refine⟨?_,fun c hc=>?_⟩
 · rw [TX];unfold Z1;rw [List.length_take,List.length_drop,← jQ];have:=h.len;omega
 · rw [Vt] at hc;exact h.cod c (List.mem_of_mem_drop (List.mem_of_mem_take hc))
theorem sY.size {n:Nat}{z:Str} (h:sY n z) (hn:n≤100000:=by decide):z.length≤sizeLine:=by rw [sizeLine_eq];have:=h.len;omega
theorem sY.int {i:Int}{k:Nat} (hk:0<k) (h:i.natAbs<10 ^ k):sY (k+1) (toString i):=by
 refine⟨?_,fun c hc=>?_⟩
 · rw [show ((toString i:String):Str).length=(toString i).length from PySem.ofString_length _]
   exact int_text_length_le10 hk h
 · rcases Nat.lt_or_ge c 1000 with z | z
   · exact z
   · exact absurd hc (int_text_free' c ⟨by omega,by omega⟩ i)
end L2
namespace L2
open PySem PySem.Spec PyProof.Rows PySem.Calls
structure EqJ (X:Cx) (H:Hp) (n:Nat) (x y:V) (b:Bool):Prop where
 rc:∀ (pins:List (Addr × Obj)) (s:Shared) (σ:St) (u v:Value) (A:Around),Inv X pins σ H s→RelV x u→RelV y v→A.units+n<cLine→SeqAt.RcAt A s u v b
 ne:∀ (pins:List (Addr × Obj)) (s:Shared) (σ:St) (u v:Value) (A:Around),Inv X pins σ H s→RelV x u→RelV y v→A.units+n<cLine→SeqAt.RcNeAt A s u v (!b)
section
variable {X:Cx}{H:Hp}{n:Nat}{x y:V}{b:Bool}{p q:Addr}{xs ys:List V}
theorem RM {xs:List V}{us:List Value} (r:Vals xs us) {j:Nat} (h:j<us.toArray.size):∃ x,xs[j]? = some x∧RelV x us.toArray[j]:=by
 have hj:j<us.length:=by simpa using h
 have hx:j<xs.length:=by rw [r.length];exact hj
 obtain⟨u,hu,ru⟩:=r.get (List.getElem?_eq_getElem hx)
 refine⟨xs[j],List.getElem?_eq_getElem hx,?_⟩
 rw [List.getElem?_eq_getElem hj] at hu
 cases hu
 simpa using ru
theorem Ot {x:V} (h:nY x=true):QX x x=true:=by
 cases x <;> first | rfl | exact beq_self_eq_true _ | cases h
theorem Dj {xs:List V} (h:xs.all nY=true) {j:Nat}{x:V} (e:xs[j]? = some x):nY x=true∧xs.getD j .non=x :=
 ⟨List.all_eq_true.mp h x (List.mem_of_getElem? e),by rw [List.getD,e];rfl⟩
end
end L2
namespace L2
open PySem PySem.Spec PyProof.Rows PySem.Calls
section
variable {P:Program}{w:World}{K:PySem.W.Frag}{mg:Str→Option Value}{base:Heap}
structure dj (P:Program) (w:World) (K:PySem.W.Frag) (mg:Str→Option Value) (base:Heap) (CX:Al) (k:Nat) (C:Addr) (m:Str) where
 f:Addr
 fd:FuncData
 ps:List Str
 sp:Sp
 ds:List Value
 qX:List V
 c:Ak K C
 hm:Meth K C m f
 F:bw P w K mg base CX k f fd ps sp
 hb:Binds K fd ps ds
 hd:Vals qX ds
end
section
variable {X:Cx}{CX:Al}{k:Nat}{E:XK}{m:Str}{pos apos:Pos}{e o:Expr}{es:List Expr}{ta:TE}{t:TA}
def Ou (X:Cx) (CX:Al) (k:Nat) (m:Str) (E:XK) (ta:TE) (t:TA):TE:=fun σ H Q=>ta σ H fun x H1=>∃ (a C dx:Addr) (fs:List (Str × V)) (M:dj X.prog X.w X.K X.mg X.base CX k C m),x=.ref a∧H1 a=some (.ins C dx fs)∧fs.lookup m=none ∧
 t σ H1 fun vs H2=>M.sp (x::(vs++M.qX)) H2 Q E
theorem yD {pl:Sem Bool} (hr:dO k X.A) (hx:Passes CX X E) (he:PE X o ta) (ha:PA X (e::es) t)
   (hst:starEach (e::es) X.env=(false,eval e X.env)::starEach es X.env:=by rfl) (hpl:(backTo pos (starEach es X.env)).any (·.1)=false:=by rfl)
   (ht:eval (.Call (.Attribute o m apos) (e::es) [] pos) X.env=(do
     let ov ← eval o X.env
     standAt apos.atName
     let (f,first) ← holding [ov] (getMethod ov m pl)
     callWith pos f first (backTo pos (starEach (e::es) X.env)) (backToKw pos (keywordEach [] X.env))):=by rfl) :
   PE X (.Call (.Attribute o m apos) (e::es) [] pos) (Ou X CX k m E ta t):=by
 intro pins s σ H Q I h
 refine PySem.W.methodCall_KW (pl:=pl) (dm (he pins s σ H _ I h) fun u s1 ⟨x,H1,I1,rx,a,C,dx,fs,M,ex,ea,l,q⟩=>?_) ht
 subst ex
 obtain rfl:u=Value.ref a:=rx
 refine qW I1 ea M.c M.hm l ?_
 refine PySem.W.callWith_K (first:=[.ref a]) (h₀:=X.base) I.ok.mod.Tv M.hm.kp (dm (ha pos pins s1 σ H1 _ I1 q) fun us s2 ⟨vs,H2,I2,r,q2⟩=>⟨I2.wY,?_⟩) hst hpl
 exact CV (us:=.ref a::us) (vs:=.ref a::vs) M.F hr M.hb M.hd hx I2 (.cons rfl r) q2
theorem uH {pl:Sem Bool} (hr:dO k X.A) (hx:Passes CX X E) (he:PE X o ta)
   (ht:eval (.Call (.Attribute o m apos) [] [] pos) X.env=(do
     let ov ← eval o X.env
     standAt apos.atName
     let (f,first) ← holding [ov] (getMethod ov m pl)
     callWith pos f first (backTo pos (starEach [] X.env)) (backToKw pos (keywordEach [] X.env))):=by rfl) :
   PE X (.Call (.Attribute o m apos) [] [] pos) (Ou X CX k m E ta LC):=by
 intro pins s σ H Q I h
 refine PySem.W.methodCall_KW (pl:=pl) (dm (he pins s σ H _ I h) fun u s1 ⟨x,H1,I1,rx,a,C,dx,fs,M,ex,ea,l,q⟩=>?_) ht
 subst ex
 obtain rfl:u=Value.ref a:=rx
 refine qW I1 ea M.c M.hm l ?_
 exact PySem.W.callWith_K0 (first:=[.ref a]) I1.wY M.hm.kp (CV (us:=[.ref a]) (vs:=[.ref a]) M.F hr M.hb M.hd hx I1 (.cons rfl .nil) q)
structure KD (K:PySem.W.Frag) (C:Addr) (m:Str) (f:Addr):Prop where
 rd:PySem.W.readsIn K C (.type "type")=true
 at_:PySem.W.findCls K (.ref C) (.type "type") m=some (.val (.ref f))
 sp:PySem.W.specialIn K (.ref C) "__getattribute__" = some (some (.builtin "type.__getattribute__"))
 kp:PySem.W.keepIn K (.ref f)=true
theorem xU {pl:Sem Bool}{C f:Addr}{fd:FuncData}{ps:List Str}{sp:Sp}{x:Str}{np:Pos} (c:KD X.K C m f) (F:bw X.prog X.w X.K X.mg X.base CX k f fd ps sp) (hr:dO k X.A) (hg:Gl X x) (hmg:X.mg x=some (.ref C)) (hb:Binds X.K fd ps []) (hx:Passes CX X E)
   (ha:PA X (e::es) t) (hd:(x == ("__debug__":Str))=false:=by decide)
   (hst:starEach (e::es) X.env=(false,eval e X.env)::starEach es X.env:=by rfl) (hpl:(backTo pos (starEach es X.env)).any (·.1)=false:=by rfl)
   (ht:eval (.Call (.Attribute (.Name x np) m apos) (e::es) [] pos) X.env=(do
     let ov ← eval (.Name x np) X.env
     standAt apos.atName
     let (f,first) ← holding [ov] (getMethod ov m pl)
     callWith pos f first (backTo pos (starEach (e::es) X.env)) (backToKw pos (keywordEach [] X.env))):=by rfl) :
   PE X (.Call (.Attribute (.Name x np) m apos) (e::es) [] pos) (Tw sp [] E t):=by
 intro pins s σ H Q I h
 refine PySem.W.methodCall_KW (pl:=pl) (p7 I hg hmg ?_ hd) ht
 refine PySem.W.method_cls I.wY c.sp (PySem.W.cls_value (s:=s) I.wY c.rd c.at_ rfl ?_)
 refine PySem.W.callWith_K (first:=[]) (h₀:=X.base) I.ok.mod.Tv c.kp (dm (ha pos pins _ σ H _ (I.tok _) h) fun us s2 ⟨vs,H2,I2,r,q2⟩=>⟨I2.wY,?_⟩) hst hpl
 exact CV (us:=us) (vs:=vs) F hr hb .nil hx I2 r q2
end
end L2
namespace L2
open PySem PySem.Spec PyProof.Rows
end L2
namespace L2
open PySem PySem.Spec PyProof.Rows PySem.Calls
section
variable {X:Cx}
end
theorem lk1 {a:Str}{v:V}{r:List (Str × V)}:((a,v)::r).lookup a=some v:=by rw [List.lookup_cons,beq_self_eq_true]
theorem lk2 {a b:Str}{v w:V} (h:(b == a)=false) {r:List (Str × V)}:((a,v)::(b,w)::r).lookup b=some w:=by rw [List.lookup_cons,h];exact lk1
structure Thing (K:PySem.W.Frag) (H:Hp) (x:V) where
 t:Value
 bi:Bool
 bb:Bool
 bs:Bool
 ty:QZ K H x t
 ki:PySem.W.kitOne K t (.type "int")=some bi
 kb:PySem.W.kitOne K t (.type "bool")=some bb
 ks:PySem.W.kitOne K t (.type "str")=some bs
 hi:(bi && !bb)=true→∃ n,x=.int n
 hs:bs=true→∃ z,x=.str z
 ni:∀ n,x=.int n→(bi && !bb)=true
 ns:∀ z,x=.str z→bs=true
 Z7:bb=true→∃ b,x=.bl b
 nbl:∀ b,x=.bl b→bb=true
theorem aB.Vy {K:PySem.W.Frag}{H H':Hp}{a:Addr}{xs:List V} (e:aB H H') (h:ik K H a xs):ik K H' a xs:=by
 rcases h with h | h
 · exact .inl (h.imp (fun k=>e _ _ k) (fun⟨o,k⟩=>⟨o,e _ _ k⟩))
 · exact .inr h
theorem aB.aj6 {K:PySem.W.Frag}{H H':Hp}{x:V}{t:Value} (e:aB H H') (h:QZ K H x t):QZ K H' x t:=by
 cases h with
 | old h=>exact .old (e.ty h)
 | exc h c=>exact .exc (e _ _ h) c
 | Vx h c=>exact .Vx (e _ _ h) c
 | tpl h=>exact .tpl (e.Vy h)
def Thing.same {K:PySem.W.Frag}{H H':Hp}{x:V} (h:Thing K H x) (e:aB H H'):Thing K H' x:=⟨h.t,h.bi,h.bb,h.bs,e.aj6 h.ty,h.ki,h.kb,h.ks,h.hi,h.hs,h.ni,h.ns,h.Z7,h.nbl⟩
theorem aB.upd {H H':Hp}{p:Addr}{o:HO} (e:aB H H') (h:H p=none∨H p=some o):aB H (L2.upd H' p o):=fun b u q=>by
 by_cases z:b=p
 · subst z
   rcases h with h | h
   · rw [h] at q;cases q
   · rw [h] at q;rw [zB];exact q
 · rw [zI z];exact e b u q
end L2
namespace L2
open PySem PySem.Spec PyProof.Rows
end L2
namespace L2
open PySem PySem.Spec PyProof.Rows PySem.Calls
theorem Dk {X:Cx}{e:Expr}{te te':TE} (h:PE X e te') (h2:te'=te):PE X e te:=h2 ▸ h
def Vz (K:PySem.W.Frag) (a:Addr) (D:List (Str × Bool)):Prop :=
 (a == sysModules)=false∧∃ o es ep,K.lookup a=some o∧o.ExactDict∧o.data=.dict es ep∧KTD.Rows (fun (b:Bool) (v:Value)=>v=.bool b) es.toList D
theorem RN {K:PySem.W.Frag}{a:Addr}{oc:Value}{od:Option Addr}{es:Array DictEntry}{ep:Nat}{sl:Array (Option Value)}{D:List (Str × Bool)} (h:K.lookup a=some ⟨oc,od,.dict es ep,sl⟩) (hs:(a == sysModules)=false) (hc:oc=.type "dict") (hd:od=none) (hsl:sl=#[]) (hr:KTD.Rows (fun (b:Bool) (v:Value)=>v=.bool b) es.toList D):Vz K a D:=by
 subst hc hd hsl
 exact⟨hs,_,es,ep,h,⟨rfl,rfl,rfl⟩,rfl,hr⟩
def xV (D:List (Str × Bool)) (z:Str):V:=match D.lookup z with
 | some b=>.bl b
 | none=>.non
theorem qY (z:Str):∀ D:List (Str × Bool),KTD.datumAt z (D.map fun p=>(p.1,KTD.Dat.flat (.bool p.2)))=(D.lookup z).map fun b=>KTD.Dat.flat (.bool b)
 | []=>rfl
 | (x,b)::D=>by
   show (if decide (z=x)=true then some (KTD.Dat.flat (.bool b)) else KTD.datumAt z (D.map fun p=>(p.1,KTD.Dat.flat (.bool p.2))))=_
   rw [qY z D,List.lookup_cons]
   by_cases h:z=x
   · subst h;rw [if_pos (decide_eq_true rfl),beq_self_eq_true];rfl
   · rw [if_neg (by simpa using h),beq_eq_false_iff_ne.mpr h]
section
variable {X:Cx}
theorem RP {x:Str}{a:Addr}{D:List (Str × Bool)}{e:Expr}{te:TE}{np apos cpos:Pos} (hg:Gl X x) (hm:X.mg x=some (.ref a)) (hT:Vz X.K a D) (he:PE X e te) (m:M1 X (.Name x np) "get" apos e cpos) (hdb:(x == ("__debug__":Str))=false:=by decide) :
   PE X (.Call (.Attribute (.Name x np) "get" apos) [e] [] cpos) (fun σ H Q=>te σ H fun v H1=>∃ z,v=.str z∧Q (xV D z) H1):=by
 intro pins s σ H Q I h
 obtain⟨lo,o,es,ep,lk,hc,hd,hr⟩:=hT
 have T0:KTD.TextTab X.base a (D.map fun p=>(p.1,KTD.Dat.flat (.bool p.2))) :=
   ⟨lo,o,es,ep,I.ok.mod.Tv _ _ lk,hc,hd,hr.mono (f:=fun b=>KTD.Dat.flat (.bool b)) fun d v e=>by subst e;exact PyProof.V.Flat.bool d⟩
 have T:∀ {pins:List (Addr × Obj)}{σ:St}{H:Hp}{s:Shared},Inv X pins σ H s→KTD.Here X.base s.heap a (D.map fun p=>(p.1,KTD.Dat.flat (.bool p.2))):=fun I=>⟨T0,I.bk⟩
 refine wpAny_Call_method m.base m.few m.line PySem.F.plainAttrs_dict PySem.F.slot_dict_get PySem.F.type_dict_get (p7 I hg hm ?_ hdb)
 refine⟨(T I).typeIs,(T I).noDict,?_⟩
 rw [m.trees]
 refine Calls.callWith_builtin rfl (Calls.evalArgs_plain (Calls.spliced_cons (dm (he pins s σ H _ I h) fun iv s2 ⟨y,H2,I2,ry,z,ez,q2⟩=>Calls.spliced_nil ?_)))
 subst ez
 obtain⟨t,rfl⟩:=ry
 refine call_meetsIn PySem.F.slot_dict_get (T I2).typeIs PySem.F.entry_dict_get (PySem.F.args_dict_get_2 _ _) (KTD.meets_get1 (h₀:=X.base)) ⟨T I2,fun d v ha hv=>?_,fun hn=>?_⟩
 · rw [qY] at ha
   cases hl:D.lookup z with
   | none=>rw [hl] at ha;cases ha
   | some b =>
     rw [hl] at ha
     cases ha
     have hv':v=.bool b:=PyProof.V.Flat.bool_inv hv
     subst hv'
     refine⟨.bl b,H2,I2.tok _,rfl,?_⟩
     unfold xV at q2
     rw [hl] at q2
     exact q2
 · rw [qY] at hn
   cases hl:D.lookup z with
   | some b=>rw [hl] at hn;cases hn
   | none =>
     refine⟨.non,H2,I2.tok _,rfl,?_⟩
     unfold xV at q2
     rw [hl] at q2
     exact q2
theorem FT:∀ {xs:List V}{us:List Value},Vals xs us→xs.all nY=true→∀ {x:V} (j:Nat) (h:j<us.toArray.size),eqU x us.toArray[j]=QX (xs.getD j .non) x:=by
 intro xs us r f x j h
 obtain⟨y,hy,ry⟩:=RM r h
 obtain⟨a,b⟩:=Dj f hy
 rw [b]
 exact Oa ry a
def T4 (x:V) (xs:List V) (j:Nat):Prop:=∃ y,xs[j]? = some y∧QX y x=true∧∀ (m:Nat) z,m<j→xs[m]? = some z→QX z x=false
theorem Mj:MtM X "list.index" (fun x vs H Q=>∃ p xs y j,x=.ref p∧vs=[y]∧b7 X.K H p xs∧xs.all nY=true∧nY y=true∧T4 y xs j∧Q (.int (j:Nat)) H):=by
 intro pins s σ H x vs v us Q I rx rv h
 obtain⟨p,xs,y,j,rfl,rfl,hq,fs,fy,⟨y',hj,hy,hno⟩,q⟩:=h
 cases rx
 obtain⟨u,rfl,ru⟩:=rv.one
 obtain⟨its,r,pl,hz⟩:=I.list hq
 obtain⟨⟨cls,dd,data,sl⟩,ho,hc,n,hd⟩:=pl.isList
 simp only at hc hd
 subst hc hd
 have hl:=r.length
 have hlt:j<xs.length:=(List.getElem?_eq_some_iff.mp hj).1
 have hn:=uC
 refine call_meets PySem.F.slot_list_index ⟨_,ho,rfl⟩ PySem.F.entry_list_index (PySem.F.args_list_index_2 _ _)
   (SeqAt.list_indexAt p its.toArray n dd sl u (eqU y) j (by rw [List.size_toArray];omega) (by omega) ?_ ?_) ⟨ho,fun w hw=>Fi ru fy r fs w (by simpa using hw),⟨.int j,H,I.tok _,⟨_,rfl⟩,q⟩⟩
 · rw [FT r fs,(Dj fs hj).2];exact hy
 · intro m hm hmj
   rw [FT r fs]
   have hm':m<xs.length:=by omega
   have e:=List.getElem?_eq_getElem hm'
   rw [(Dj fs e).2]
   exact hno m _ hmj e
end
end L2
namespace L2
open PySem PySem.Spec PyProof.Rows PySem.Calls
section
variable {prog:Program}{w:World}{A:Around}{R:Result→Shared→Prop}{I:Addr}{fp wr:List Addr}{G:Array GenState→Array GenState→Prop}{n:Nat}{P:Nat→Value→Prop}{St:Nat→Shared→Prop}
end
section
variable {prog:Program}{w:World}{A:Around}{E:Value→Shared→Prop}{s:Shared}
end
section
variable {X:Cx}
end
end L2
namespace L2
open PySem PySem.Spec PyProof.Rows PySem.Calls
section
variable {X:Cx}
end
theorem Ov {K:PySem.W.Frag}{a:Addr}{xs:List V}{te:TE}{σ:St}{H:Hp}{Q:VK} (hz:xs.length≤sizeLine) (W:Nat→List V→Hp→Prop) (h0:W 0 [] H) (hq:∀ i ys H,W i ys H→ik K H a xs)
   (hs:∀ i x ys H,xs[i]? = some x→ys.length=i→W i ys H→te (some x::σ) H fun v H'=>W (i+1) (ys++[v]) H')
   (hd:∀ ys H,ys.length=xs.length→W xs.length ys H→∀ p,H p=none→Q (.ref p) (upd H p (.lst ys))):Ky (Itt K a) te σ H Q:=by
 refine⟨xs.length,W,hz,h0,fun i ys H hi hl hw=>?_⟩
 have q:=hq i ys H hw
 by_cases hlt:i<xs.length
 · refine .inr ⟨⟨xs,xs[i],q,by simp [hlt]⟩,hlt,fun v H' y=>?_⟩
   obtain⟨e,y⟩:=y
   subst e
   exact hs i v ys _ (y xs q) hl hw
 · have e:i=xs.length:=by omega
   subst e
   exact .inl ⟨⟨xs,q,Nat.le_refl _⟩,hd ys H hl hw⟩
end L2
namespace HT
open PySem PySem.Spec PyProof.Rows PySem.Calls
section
variable {prog:Program}{w:World}{A:Around}{E:Value→Shared→Prop}{s:Shared}
end
end HT
namespace L2
open PySem PySem.Spec PyProof.Rows PySem.Calls
section
variable {X:Cx}
end
end L2
namespace L2
open PySem PySem.Spec PyProof.Rows PySem.Calls
def Ml (X:Cx) (ifs:List Expr) (t:TT):Prop :=
 ∀ (pins:List (Addr × Obj)) (s:Shared) (σ:St) (H:Hp) (Q:Bool→Hp→Prop),Inv X pins σ H s→t σ H Q →
   wpAny (model X.prog X.w) X.A (forIn ifs true fun c r=>if r=true then do let ok ← isTrue c X.env (eval c X.env);pure (ForInStep.yield ok) else pure (ForInStep.yield r)) (TP X pins σ Q) X.xe s
def T5:TT:=fun _ H Q=>Q true H
theorem oY {X:Cx}:Ml X [] T5:=fun pins s σ H Q I h=>wpAny_pure ⟨H,I,h⟩
theorem Dl {prog:Program}{w:World}{A:Around}{R:Result→Shared→Prop}{s:Shared}{elt target iter:Expr}{ifs:List Expr}{scope:Scope}{pos:Pos}{it acc:Value}{env:Env} (I:Nat→Shared→Prop)
   (turn:∀ n s,I n s→wpAny (model prog w) A (pyNext it) (fun r s₁=>match r with
     | none=>R (.ok .next) s₁
     | some v=>wpAny (model prog w) A (letOwnedTupleGo target it v) (fun _ s₂=>wpAny (model prog w) A (assign target env v) (fun _ s₃ =>
         wpAny (model prog w) A (forIn ifs true fun c r=>if r=true then do let ok ← isTrue c env (eval c env);pure (ForInStep.yield ok) else pure (ForInStep.yield r)) (fun ok s₄ =>
           if ok=true then wpAny (model prog w) A (eval elt env) (fun x s₅ =>
             wpAny (model prog w) A (call (.builtin "list.append") [acc,x]) (fun _ s₆=>∃ m,m<n∧I m s₆) (notedBy (model prog w) A env fun e s'=>R (.error e) s') s₅)
             (notedBy (model prog w) A env fun e s'=>R (.error e) s') s₄ else ∃ m,m<n∧I m s₄)
           (notedBy (model prog w) A env fun e s'=>R (.error e) s') s₃) (notedBy (model prog w) A env fun e s'=>R (.error e) s') s₂) (notedBy (model prog w) A env fun e s'=>R (.error e) s') s₁)
     (notedBy (model prog w) A env fun e s'=>R (.error e) s') s)
   (n:Nat) (h:I n s):codeAny (model prog w) A (.compLoop (.ListComp elt [⟨target,iter,ifs,0⟩] scope pos) 0 it acc env) R s:=by
 refine codeAny_loop rfl I (fun n s hI=>?_) n h
 show wpAny _ A ((compTurn (.ListComp elt [⟨target,iter,ifs,0⟩] scope pos) 0 it acc env).onRaise (fun x=>do noteFrame x env;theTreesLotGoes x)) _ _ s
 refine wpAny_noted ?_
 rw [compTurn_list]
 refine wpAny_bind (wpAny_standAt (wpAny_bind (wpAny_mono (turn n s hI) (fun r s₁ h₁=>?_) fun _ _ h'=>h')))
 cases r with
 | none=>exact wpAny_pure h₁
 | some v =>
   refine wpAny_bind (wpAny_mono h₁ (fun _ s₂ h₂=>wpAny_bind (wpAny_mono h₂ (fun _ s₃ h₃=>?_) fun _ _ h'=>h')) fun _ _ h'=>h')
   refine wpAny_bind (wpAny_mono h₃ (fun ok s₄ h₄=>?_) fun _ _ h'=>h')
   cases ok with
   | false=>exact wpAny_pure ⟨rfl,h₄⟩
   | true=>exact wpAny_bind (wpAny_bind (wpAny_mono h₄ (fun x s₅ h₅=>wpAny_bind (wpAny_mono h₅ (fun _ s₆ h₆=>wpAny_pure (wpAny_pure ⟨rfl,h₆⟩)) fun _ _ h'=>h')) fun _ _ h'=>h'))
def cB (X:Cx) (scope:Scope) (C:Addr) (x y:Str) (M:List Str) (s₂:Shared) (H₂:Hp) (fp:List Addr):Cx :=
 { X with N:=x::y::M,s₀:=s₂,H₀:=H₂,env:=compEnvC scope (jj X.env scope.names []) C X.env,outer:=X.stack,ex:=fp,fn:=fun _=>false,pn:=[],xe:=fun _ _=>False }
structure lF (X:Cx) (scope:Scope) (x y:Str) (M:List Str):Prop where
 base:dh X scope x M
 Z8:scope.names.lookup y=some .local
 nd2:(x::y::M).Nodup
theorem jT {X:Cx}{scope:Scope}{x y:Str}{M:List Str} (h:dh X scope x M) (h1:scope.names.lookup y=some .local) (h2:(x::y::M).Nodup):lF X scope x y M:=⟨h,h1,h2⟩
section
variable {X:Cx}{scope:Scope}{x y:Str}{M:List Str}{pins:List (Addr × Obj)}{σ:St}{H₂:Hp}{s₂:Shared}{elt iter tg:Expr}{ifs:List Expr}{pos:Pos}{te:TE}{wi:TI}{g:TG}{tc:TT}
theorem Mm (K:lF X scope x y M) (I:Inv X pins σ H₂ s₂) {fp:List Addr} (hf:∀ b∈fp,m8 X pins H₂ b) (hfl:∀ b∈fp,b<s₂.heap.objs.size) {C:Addr} (hC:s₂.heap.objs.size≤C) {h₁:Heap}{t:Nat}{m:Str→Option Value} (hn:h₁.Ns C m)
   (hk:∀ b o,s₂.heap.get? b=some o→h₁.get? b=some o):Inv (cB X scope C x y M s₂ H₂ fp) [] (none::none::σ) H₂ { s₂ with heap:=h₁,toks:=t }:=by
 have I1:=Fx (t:=t) K.base I hf hfl hC hn hk
 have ok:(cB X scope C x y M s₂ H₂ fp).Ok:=by
   obtain⟨a1,a2,a3,a4,a5,a6,a7,a8,a9,a10,a11,a12,a13,a14,a15,a16,a17,a18⟩:=I1.ok
   exact⟨a1,a2,a3,a4,a5,a6,a7,a8,a9,a10,a11,a12,a13,a14,a15,a16,a17,a18⟩
 obtain⟨m',ns',lo⟩:=I1.loc
 refine⟨ok,I1.os,I1.bare,I1.base,⟨m',ns',fun i z v e1 e2 e3=>?_⟩,I1.cell,I1.free,I1.jh,I1.pin,I1.hok,?_⟩
 · match i,e1,e2 with
   | 0,_,e2=>cases e2
   | 1,_,e2=>cases e2
   | j+2,e1,e2=>exact lo (j+1) z v e1 e2 e3
 · have:=I1.len
   show (none::none::σ).length=(x::y::M).length
   have h2:(none::σ).length=(x::M).length:=this
   simp only [List.length_cons] at h2 ⊢
   omega
def Ow (wi:TI) (g:TG) (tc:TT) (te:TE):TE:=fun σ H Q=>wi σ H fun J H1=>∃ (n:Nat) (W:Nat→List V→Hp→Prop),n≤sizeLine∧W 0 [] H1∧∀ i ys H,i≤n→ys.length≤i→W i ys H →
 (J.stop i H∧∀ p,H p=none→Q (.ref p) (upd H p (.lst ys)))∨(J.go i H∧i<n∧∀ x H',J.Ih i H x H'→∀ u v,g x (u::v::σ) H' fun ρ H2=>(∃ u' v',ρ=u'::v'::σ)∧tc ρ H2 fun c H3=>if c=true then te ρ H3 fun z H4=>W (i+1) (ys++[z]) H4 else W (i+1) ys H3)
theorem vJ (K:lF X scope x y M) (hc:X.calm=true) (I:Inv X pins σ H₂ s₂) (hg:∀ (C:Addr) (s₂:Shared) (H₂:Hp) (fp:List Addr),PG (cB X scope C x y M s₂ H₂ fp) tg g) (ht:∀ (C:Addr) (s₂:Shared) (H₂:Hp) (fp:List Addr),Ml (cB X scope C x y M s₂ H₂ fp) ifs tc) (he:∀ (C:Addr) (s₂:Shared) (H₂:Hp) (fp:List Addr),PE (cB X scope C x y M s₂ H₂ fp) elt te)
   {it:Addr}{fp:List Addr}{tn:Nat→Heap→Prop}{J:It} (T:Turn X.prog X.w X.K tg J fp it tn) (st:tn 0 s₂.heap) (hf:∀ b∈fp,m8 X pins H₂ b) {n:Nat} (hsz:n≤sizeLine) {W:Nat→List V→Hp→Prop}{F:List V→Hp→Prop}
   (w0:W 0 [] H₂) (turn:∀ i ys H,i≤n→ys.length≤i→W i ys H→(J.stop i H∧F ys H)∨(J.go i H∧i<n∧∀ x H',J.Ih i H x H'→∀ u v,g x (u::v::σ) H' fun ρ H2=>(∃ u' v',ρ=u'::v'::σ)∧tc ρ H2 fun c H3=>if c=true then te ρ H3 fun z H4=>W (i+1) (ys++[z]) H4 else W (i+1) ys H3))
   {E:Value→Shared→Prop}{RR:Value→Addr→Result→Shared→Prop}
   (hRR:∀ (D C:Addr) (s':Shared) (H':Hp) (ys:List V) (m:Str→Option Value),Inv X pins σ (upd H' D (.lst ys)) s'→H' D=none→m8 X pins (upd H' D (.lst ys)) C→s'.heap.Ns C m→F ys H'→RR (.ref D) C (.ok .next) s') :
   wpAny (model X.prog X.w) X.A (newList []) (fun acc s₃=>wpAny (model X.prog X.w) X.A (newFunctionEnv scope X.env.globals (jj X.env scope.names []) [] X.env.qual none .none (some X.env)) (fun cenv s₄ =>
     codeAny (model X.prog X.w) X.A (.compStart (.ListComp elt [⟨tg,iter,ifs,0⟩] scope pos) 0 (.ref it) acc { cenv with scope:=relabel scope X.env }) (RR acc cenv.locals) s₄) E s₃) E s₂:=by
 refine wpAny_newObj_type (wpAny_newFunctionEnv K.base.cell (by intro y hy;simp at hy) (fun h₁ hns₁ hsb₁=>?_) K.base.kind)
 dsimp only at hns₁ hsb₁ ⊢
 generalize hH2:s₂.heap.push { cls:=.type "list",dict:=none,data:=.seq ([]:List Value).toArray } = H2 at hns₁ hsb₁ ⊢
 have hC:H2.objs.size=s₂.heap.objs.size+1:=by rw [← hH2,Heap.size_push]
 have hDC:s₂.heap.objs.size≠H2.objs.size:=by rw [hC];exact Nat.ne_of_lt (Nat.lt_succ_self _)
 have below:∀ b,b<s₂.heap.objs.size→b≠H2.objs.size∧b≠s₂.heap.objs.size:=fun b hb=>⟨by rw [hC];exact Nat.ne_of_lt (Nat.lt_succ_of_lt hb),Nat.ne_of_lt hb⟩
 have hfl:∀ b∈fp,b<s₂.heap.objs.size:=fun b hb=>by obtain⟨o,e,_⟩:=T.obj _ _ st b hb;exact Heap.lt_size e
 have old:∀ b o,s₂.heap.get? b=some o→h₁.get? b=some o:=fun b o e=>hsb₁.extBut b o (below b (Heap.lt_size e)).1 (Heap.get?_push_of_some _ (hH2 ▸ Heap.get?_push_of_some _ e))
 have hacc:h₁.get? s₂.heap.objs.size=some { cls:=.type "list",data:=.seq ([]:List Value).toArray 0 }:=hsb₁.extBut _ _ hDC (Heap.get?_push_of_some _ (hH2 ▸ Heap.get?_push_size _ rfl))
 generalize hCC:H2.objs.size=C at *
 generalize Ar:s₂.heap.objs.size=D at *
 have hCle:s₂.heap.objs.size≤C:=by rw [Ar,hC];exact Nat.le_succ _
 have st₁:tn 0 h₁:=T.keep _ _ _ st fun b _ o e=>old b o e
 have I₁:=Mm (t:=s₂.toks+([]:List (Str × Value)).length) K I hf (fun b hb=>by rw [Ar];exact hfl b hb) hCle hns₁ old
 generalize hX':cB X scope C x y M s₂ H₂ fp=X' at I₁
 have eX:X'.prog=X.prog∧X'.w=X.w∧X'.K=X.K∧X'.calm=true∧X'.A=X.A∧X'.ex=fp∧X'.env=compEnvC scope (jj X.env scope.names []) C X.env∧X'.s₀=s₂∧X'.pn=[]:=by
   subst hX';exact⟨rfl,rfl,rfl,hc,rfl,rfl,rfl,rfl,rfl⟩
 obtain⟨eP,ew,eK,ec,eA,eex,Fy,ZW,Vr⟩:=eX
 have eL:X'.env.locals=C:=by rw [Fy];rfl
 have cells':∀ y c,X'.env.cells.lookup y=some c→X.env.cells.lookup y=some c:=fun y c e=>by rw [Fy] at e;exact dh.sS e
 have efs:X'.fs=frs X.stack:=by subst hX';rfl
 have De:∀ b∈X'.fs,b=X.env.locals∨b∈X.fs:=fun b hb=>List.mem_cons.mp (I.wZ b (by rw [← efs];exact hb))
 have IW:∀ {pn:List (Addr × Obj)}{H':Hp},(∀ p∈pn,p.1=D)→(∀ b∈fp,H' b=none)→∀ b∈fp,m8 X' pn H' b:=fun {pn H'} hp hn b hb=>by
   refine⟨hn b hb,?_,fun z=>?_,.inl (by rw [eex];exact hb),fun y c e=>(hf b hb).2.2.2.2.1 y c (cells' y c e),fun p hq=>?_⟩
   · rw [eL];exact (below b (hfl b hb)).1
   · rcases De b z with q | q
     · exact (hf b hb).2.1 q
     · exact (hf b hb).2.2.1 q
   · rw [Vr,List.nil_append] at hq
     rw [hp p hq];exact Ne.symm (below b (hfl b hb)).2
 have Dfp:D∉fp:=fun z=>Nat.lt_irrefl _ (hfl D z)
 have Oe:X.env.locals<D:=by have:=I.lt;rw [Ar] at this;exact this
 have Vs:∀ b∈X.fs,b<D:=fun b hb=>Nat.lt_of_not_le fun z=>I.U6 (a:=b) (by rw [Ar];exact z) hb
 have Og:∀ {b:Addr}{pn:List (Addr × Obj)}{H':Hp},D≤b→b≠C→H' b=none→(∀ p∈pn,p.1≠b)→m8 X' pn H' b:=fun {b pn H'} hb hbC hn hp=>by
   refine⟨hn,by rw [eL];exact hbC,fun z=>?_,.inr (by rw [ZW,Ar];exact hb),fun y c e=>?_,fun p hq=>?_⟩
   · rcases De b z with q | q
     · rw [q] at hb;exact absurd (Nat.lt_of_lt_of_le Oe hb) (Nat.lt_irrefl _)
     · exact absurd (Nat.lt_of_lt_of_le (Vs b q) hb) (Nat.lt_irrefl _)
   · obtain⟨v,o,ho,_⟩:=I.cell y c (cells' y c e)
     have:=Heap.lt_size ho
     rw [Ar] at this
     exact Nat.ne_of_lt (Nat.lt_of_lt_of_le this hb)
   · rw [Vr,List.nil_append] at hq
     exact hp p hq
 have outer:∀ {σ':St}{H':Hp}{s':Shared}{pn:List (Addr × Obj)},Inv X' pn σ' H' s'→Inv X pins σ H' s':=fun {σ' H' s' pn} J'=>by
   subst hX'
   refine I.call' (ch:=fp) J'.os J'.base J'.hok J'.bare fun b hb=>?_
   obtain⟨f0,f1,f2,f3,f4,f5⟩:=hf b hb
   exact⟨f3,f1,f4,f5⟩
 have FJ:∀ {b:Addr}{H':Hp},D≤b→H' b=none→m8 X pins H' b:=fun {b H'} hb hn=>by
   have q:=I.Ii (H':=H') (b:=b) (by rw [Ar];exact hb) hn
   exact q
 have loop:∀ s₃:Shared,s₃={ s₂ with heap:=h₁,toks:=s₂.toks+([]:List (Str × Value)).length } →
     codeAny (model X.prog X.w) X.A (.compLoop (.ListComp elt [⟨tg,iter,ifs,0⟩] scope pos) 0 (.ref it) (.ref D) (compEnvC scope (jj X.env scope.names []) C X.env)) (RR (.ref D) C) s₃:=by
   rintro s₃ rfl
   refine Dl (fun k s'=>∃ (i:Nat) (ys:List V) (its:List Value) (σ0 σ1:Option V) (H':Hp),i≤n∧k=n+1 - i∧ys.length≤i∧Inv X' [] (σ0::σ1::σ) H' s'∧tn i s'.heap∧(∀ b∈fp,H' b=none)∧H' D=none∧Vals ys its ∧
     (∃ c,s'.heap.get? D=some { cls:=.type "list",data:=.seq its.toArray c })∧W i ys H') ?_ (n+1) ⟨0,[],[],none,none,H₂,Nat.zero_le _,rfl,Nat.le_refl _,I₁,st₁,fun b hb=>(hf b hb).1,by rw [← Ar];exact I.hok.fresh (Nat.le_refl _),.nil,⟨0,hacc⟩,w0⟩
   rintro k s' ⟨i,ys,its,σ0,σ1,H',hi,rfl,hyl,I',st',fr',hD',rv,⟨c,hobj⟩,w'⟩
   rcases turn i ys H' hi hyl w' with ⟨stop,fin⟩ | ⟨go,hlt,step⟩
   · have Ja:Inv X' [(D,{ cls:=.type "list",data:=.seq its.toArray c })] (σ0::σ1::σ) H' s':=I'.jE fun p hp=>by
       obtain rfl:p=(D,{ cls:=.type "list",data:=.seq its.toArray c }):=by simpa using hp
       refine⟨hobj,hD',?_,?_,fun v z=>nomatch z⟩
       · rw [eL];exact hDC
       · intro z
         rcases De D z with q | q
         · rw [q] at Oe;exact Nat.lt_irrefl _ Oe
         · exact Nat.lt_irrefl _ (Vs D q)
     have q:=T.done X' eP ew eK ec i _ s' (σ0::σ1::σ) H' (notedBy (model X.prog X.w) X.A (compEnvC scope (jj X.env scope.names []) C X.env) fun e s'=>RR (.ref D) C (.error e) s') Ja (IW (fun p hp=>by obtain rfl:p=(D,{ cls:=.type "list",data:=.seq its.toArray c }):=(by simpa using hp);rfl) fr') st' stop
     rw [eA] at q
     refine wpAny_mono q (fun r s4 ⟨hr,I4⟩=>?_) fun _ _ z=>z
     subst hr
     obtain⟨e4,n4,_⟩:=I4.pin (D,{ cls:=.type "list",data:=.seq its.toArray c }) (List.mem_append_right _ (by simp))
     have O4:=outer I4
     obtain⟨m4,ZX,_⟩:=I4.loc
     rw [eL] at ZX
     refine hRR D C s4 H' ys m4 (O4.track (FJ (Nat.le_refl _) n4) (Nat.le_trans I.sz (by rw [Ar];exact Nat.le_refl _)) ⟨Nat.le_trans hyl (Nat.le_trans hi hsz),its,c,rv,e4⟩) n4 (FJ (by rw [hC];exact Nat.le_succ _) ?_) ZX fin
     rw [zI (Ne.symm hDC)]
     have:=I4.free
     rw [eL] at this
     exact this
   · have Ja:Inv X' [(D,{ cls:=.type "list",data:=.seq its.toArray c })] (σ0::σ1::σ) H' s':=I'.jE fun p hp=>by
       obtain rfl:p=(D,{ cls:=.type "list",data:=.seq its.toArray c }):=by simpa using hp
       refine⟨hobj,hD',?_,?_,fun v z=>nomatch z⟩
       · rw [eL];exact hDC
       · intro z
         rcases De D z with q | q
         · rw [q] at Oe;exact Nat.lt_irrefl _ Oe
         · exact Nat.lt_irrefl _ (Vs D q)
     have pd:∀ p∈[(D,({ cls:=.type "list",data:=.seq its.toArray c }:Obj))],p.1=D:=fun p hp=>by obtain rfl:p=(D,{ cls:=.type "list",data:=.seq its.toArray c }):=(by simpa using hp);rfl
     have q:=T.item X' eP ew eK ec i _ s' (σ0::σ1::σ) H' (notedBy (model X.prog X.w) X.A (compEnvC scope (jj X.env scope.names []) C X.env) fun e s'=>RR (.ref D) C (.error e) s') Ja (IW pd fr') st' go
     rw [eA] at q
     refine wpAny_mono q (fun r s4 ⟨u,hr,h4⟩=>?_) fun _ _ z=>z
     subst hr
     refine wpAny_mono h4 (fun _ s5 ⟨xv,H5,I5,r5,y5,Ls,Zy⟩=>?_) fun _ _ z=>z
     have Zz:=I5.pinned (IW pd Zy) (T.obj _ _ Ls)
     rw [← Fy]
     have g6:=step xv H5 y5 σ0 σ1
     have q6:=(hg C s₂ H₂ fp) (([(D,({ cls:=.type "list",data:=.seq its.toArray c }:Obj))])++qT fp s5.heap) s5 (σ0::σ1::σ) H5 xv u _ (by rw [hX'];exact Zz) r5 g6
     rw [hX',eP,ew,eA] at q6
     refine wpAny_mono q6 (fun _ s6 ⟨ρ,H6,I6,⟨u',v',eρ⟩,t6⟩=>?_) (fun _ _ z=>by subst hX';exact (show False from z).elim)
     subst eρ
     have q7:=(ht C s₂ H₂ fp) _ s6 (u'::v'::σ) H6 _ (by rw [hX'];exact I6) t6
     rw [hX',eP,ew,eA] at q7
     refine wpAny_mono q7 (fun ok s7 ⟨H7,I7,w7⟩=>?_) (fun _ _ z=>by subst hX';exact (show False from z).elim)
     have aq6:∀ {s8:Shared}{H8:Hp}{pn:List (Addr × Obj)},Inv X' (pn++(([(D,({ cls:=.type "list",data:=.seq its.toArray c }:Obj))])++qT fp s5.heap)) (u'::v'::σ) H8 s8→True:=fun _=>trivial
     cases ok with
     | false =>
       obtain⟨e7,n7,_⟩:=I7.pin (D,{ cls:=.type "list",data:=.seq its.toArray c }) (List.mem_append_right _ (List.mem_append_left _ (by simp)))
       refine⟨n+1 - (i+1),by omega,i+1,ys,its,u',v',H7,hlt,rfl,Nat.le_succ_of_le hyl,I7.jE (Ey:=[]) fun p hp=>absurd hp (by simp),?_,fun b hb=>?_,n7,rv,⟨c,e7⟩,w7⟩
       · refine T.keep _ _ _ Ls fun b hb o e=>?_
         exact (I7.pin (b,o) (List.mem_append_right _ (List.mem_append_right _ (xE hb e)))).1
       · obtain⟨o,e,d⟩:=T.obj _ _ Ls b hb
         exact (I7.pin (b,o) (List.mem_append_right _ (List.mem_append_right _ (xE hb e)))).2.1
     | true =>
       have q8:=(he C s₂ H₂ fp) _ s7 (u'::v'::σ) H7 (fun z HY=>W (i+1) (ys++[z]) HY) (by rw [hX'];exact I7) w7
       rw [hX',eP,ew,eA] at q8
       refine wpAny_mono q8 (fun u8 s8 ⟨v8,H8,I8,r8,w8⟩=>?_) (fun _ _ z=>by subst hX';exact (show False from z).elim)
       obtain⟨e7,n7,_⟩:=I8.pin (D,{ cls:=.type "list",data:=.seq its.toArray c }) (List.mem_append_right _ (List.mem_append_left _ (by simp)))
       refine append_at (hsz:=by rw [List.size_toArray,← rv.length];exact Nat.le_trans hyl (Nat.le_trans hi hsz)) e7 fun h8 ZZ g8=>?_
       have I9:Inv X' [] (u'::v'::σ) H8 { s8 with heap:=h8,toks:=s8.toks }:=(I8.jE (Ey:=[]) fun p hp=>absurd hp (by simp)).turned (t':=s8.toks) (it:=D) (fun b o hb e=>(ZZ.2 b hb).trans e) n7 (by rw [eL];exact hDC) (.inr (by rw [ZW,Ar];exact Nat.le_refl _))
         (Og (H':=H8) (pn:=[]) (Nat.le_refl _) hDC n7 (fun p hp=>absurd hp (by simp))).2.2.2.2.1 (fun p hp=>by rw [Vr] at hp;exact absurd hp (by simp))
       refine⟨n+1 - (i+1),by omega,i+1,ys++[v8],its++[u8],u',v',H8,hlt,rfl,by rw [List.length_append,List.length_singleton];omega,I9,?_,fun b hb=>?_,n7,rv.append (.cons r8 .nil),⟨c+1,?_⟩,w8⟩
       · refine T.keep _ _ _ Ls fun b hb o e=>?_
         have e':=(I8.pin (b,o) (List.mem_append_right _ (List.mem_append_right _ (xE hb e)))).1
         exact (ZZ.2 b (fun z=>Dfp (z ▸ hb))).trans e'
       · obtain⟨o,e,d⟩:=T.obj _ _ Ls b hb
         exact (I8.pin (b,o) (List.mem_append_right _ (List.mem_append_right _ (xE hb e)))).2.1
       · rw [g8,List.push_toArray]
 exact codeAny_compStart_list (loop _ rfl) (T.self X.A 0 _ _ _ st₁ (loop _ rfl))
theorem Ox (K:lF X scope x y M) (hc:X.calm=true) (hi:PI X tg iter wi) (hg:∀ (C:Addr) (s₂:Shared) (H₂:Hp) (fp:List Addr),PG (cB X scope C x y M s₂ H₂ fp) tg g) (ht:∀ (C:Addr) (s₂:Shared) (H₂:Hp) (fp:List Addr),Ml (cB X scope C x y M s₂ H₂ fp) ifs tc) (he:∀ (C:Addr) (s₂:Shared) (H₂:Hp) (fp:List Addr),PE (cB X scope C x y M s₂ H₂ fp) elt te)
   (hs:∀ x,foldedSetIterable iter X.env x=pure x:=by intro _;rfl):PE X (.ListComp elt [⟨tg,iter,ifs,0⟩] scope pos) (Ow wi g tc te):=by
 intro pins s σ H Q I h
 rw [eval_ListComp]
 refine wpAny_comprehension_free (use:=none) rfl hs (K.base.closure I.ok) K.base.kind K.base.names (dm (hi pins s σ H _ I h) fun v s1 h1=>dm h1 fun itv s2 h2=>?_)
 obtain⟨it,fp,tn,J,H2,e,I2,T,st2,f2,n,W,hsz,w0,turn⟩:=h2
 subst e
 refine vJ (RR:=fun acc C=>compPost (model X.prog X.w) X.A X.xe none (EP X pins σ Q) acc C) K hc I2 hg ht he T st2 f2 hsz (F:=fun ys H=>∀ p,H p=none→Q (.ref p) (upd H p (.lst ys))) w0 turn ?_
 intro D C s' H' ys m I' n' fC ns fin
 refine⟨m,ns,fun h' sb=>?_⟩
 obtain⟨f0,f1,f2,f3,f4,f5⟩:=fC
 exact⟨.ref D,_,I'.turned (t':=s'.toks) (it:=C) (fun b o hb e=>(sb.2 b hb).trans e) f0 f1 f3 f4 f5,rfl,fin D n'⟩
end
end L2
namespace L2
open PySem PySem.Spec PyProof.Rows PySem.Calls
section
variable {X:Cx}{scope:Scope}{x y:Str}{M:List Str}{elt iter:Expr}{ifs:List Expr}{pos p1 p2 p3:Pos}{kk:Nat}{te:TE}{wi:TI}{tc:TT}
structure Oz (K:PySem.W.Frag) (J:It) (tc:TT) (te:TE) (σ:St) (H1:Hp) (Q:VK):Prop where
 ex:∃ (n:Nat) (W:Nat→List V→Hp→Prop),n≤sizeLine∧W 0 [] H1∧∀ i ys H,i≤n→ys.length≤i→W i ys H →
   (J.stop i H∧∀ p,H p=none→Q (.ref p) (upd H p (.lst ys)))∨(J.go i H∧i<n∧∀ z H',J.Ih i H z H'→∃ (p:Addr) (a b:V),z=.ref p∧ik K H' p [a,b]∧tc (some a::some b::σ) H' fun c H3=>if c=true then te (some a::some b::σ) H3 fun z H4=>W (i+1) (ys++[z]) H4 else W (i+1) ys H3)
def OD (K:PySem.W.Frag) (wi:TI) (tc:TT) (te:TE):TE:=fun σ H Q=>wi σ H fun J H1=>Oz K J tc te σ H1 Q
theorem OJ (K:lF X scope x y M) (hc:X.calm=true) {C:Addr}{s₂:Shared}{H₂:Hp}{fp:List Addr}:PG (cB X scope C x y M s₂ H₂ fp) (.Tuple [.Name x p1,.Name y p2] kk p3) (Zv X.K 2 (Nq (dH 0) (Nq (dH 1) Zu))) :=
 uA (X:=cB X scope C x y M s₂ H₂ fp) hc (yT (yL K.nd2 rfl (.inl (lookup_relabel_local K.base.loc)) (.inr (lookup_relabel_local K.base.loc))) (yT (yL K.nd2 rfl (.inl (lookup_relabel_local K.Z8)) (.inr (lookup_relabel_local K.Z8))) p8))
theorem xW (K:lF X scope x y M) (hc:X.calm=true) (hi:PI X (.Tuple [.Name x p1,.Name y p2] kk p3) iter wi) (ht:∀ (C:Addr) (s₂:Shared) (H₂:Hp) (fp:List Addr),Ml (cB X scope C x y M s₂ H₂ fp) ifs tc) (he:∀ (C:Addr) (s₂:Shared) (H₂:Hp) (fp:List Addr),PE (cB X scope C x y M s₂ H₂ fp) elt te)
   (hs:∀ x,foldedSetIterable iter X.env x=pure x:=by intro _;rfl):PE X (.ListComp elt [⟨.Tuple [.Name x p1,.Name y p2] kk p3,iter,ifs,0⟩] scope pos) (OD X.K wi tc te):=by
 intro pins s σ H Q I h
 have q:=Ox (pos:=pos) K hc (wi:=fun σ0 H0 R0=>∃ R,wi σ0 H0 R∧∀ J H1,R J H1→R0 J H1) (sU hi fun σ H R ⟨R1,a,b⟩=>⟨R1,a,b⟩) (fun C s₂ H₂ fp=>OJ (p1:=p1) (p2:=p2) (p3:=p3) (kk:=kk) K hc) ht he hs pins s σ H Q I
 refine q ⟨_,h,fun J H1 r=>?_⟩
 obtain⟨n,W,h1,h2,h3⟩:=r.ex
 refine⟨n,W,h1,h2,fun i ys H' hi hy hw=>?_⟩
 rcases h3 i ys H' hi hy hw with hq | ⟨g1,g2,g3⟩
 · exact .inl hq
 · refine .inr ⟨g1,g2,fun z H2 hz u v=>?_⟩
   obtain⟨p,a,b,e,hq,t⟩:=g3 z H2 hz
   exact⟨p,[a,b],e,hq,rfl,a,[b],rfl,b,[],rfl,rfl,⟨_,_,rfl⟩,t⟩
end
theorem jU {K:PySem.W.Frag}{a:Addr}{xs:List V}{tc:TT}{te:TE}{σ:St}{H:Hp}{Q:VK} (hz:xs.length≤sizeLine) (W:Nat→List V→Hp→Prop) (h0:W 0 [] H) (hq:∀ i ys H,W i ys H→b7 K H a xs)
   (hs:∀ i x ys H,xs[i]? = some x→ys.length≤i→W i ys H→∃ (p:Addr) (u v:V),x=.ref p∧ik K H p [u,v]∧tc (some u::some v::σ) H fun c H3=>if c=true then te (some u::some v::σ) H3 fun z H4=>W (i+1) (ys++[z]) H4 else W (i+1) ys H3)
   (hd:∀ ys H,W xs.length ys H→∀ p,H p=none→Q (.ref p) (upd H p (.lst ys))):Oz K (Nv K a) tc te σ H Q:=by
 refine⟨xs.length,W,hz,h0,fun i ys H hi hl hw=>?_⟩
 have q:=hq i ys H hw
 by_cases hlt:i<xs.length
 · refine .inr ⟨⟨xs,xs[i],q,by simp [hlt]⟩,hlt,fun v H' y=>?_⟩
   obtain⟨e,y⟩:=y
   subst e
   exact hs i v ys _ (y xs q) hl hw
 · have e:i=xs.length:=by omega
   subst e
   exact .inl ⟨⟨xs,q,Nat.le_refl _⟩,hd ys H hw⟩
section
variable {prog:Program}{w:World}{A:Around}{E:Value→Shared→Prop}{s:Shared}
end
section
variable {X:Cx}
end
section
variable {X:Cx}{tg:Expr}
end
end L2
namespace L2
open PySem PySem.Spec PyProof.Rows PySem.Calls
end L2
namespace L2
open PySem PySem.Spec PyProof.Rows PySem.Calls
end L2
namespace L2
open PySem PySem.Spec PyProof.Rows PySem.Calls
open PySem.W (tabObj CodeHd kla_obj kla_fn)
def oZ (c:Addr) (v:V):HO:=.ext fun h=>∃ u,RelV v u∧h.IsCell c (some u)
def FW (c:Addr) (q:Str):HO:=.ext fun h=>h.CodeRec (.ref c) q
def Fz (H:Hp) (b:Addr) (u:HO):Prop:=∃ o,H b=some (.qp o u)
structure jk where
 qual:Str
 params:Arguments
 body:Expr
 scope:Scope
 x:Str
 ys:List Str
structure jk.Ok (D:jk):Prop where
 kind:D.scope.kind=.function
 co:D.scope.isCoroutine=false
 gen:D.scope.isGenerator=false
 names:D.scope.names=(D.x,.local)::D.ys.reverse.map fun y=>(y,.free)
 nd:(D.x::D.ys).Nodup
 bind:∀ (cs:List (Str × Addr)) (pm cdv ct u:Value),bindArgs (kla_fn "<lambda>" D.qual D.params D.body D.scope cs pm cdv ct) ⟨[u],[]⟩=pure [(D.x,u)]
def Jh (D:jk) (p:Addr) (cs:List (Str × Addr)) (c':Addr):HO:=.ext fun h=>∃ pm ctv,h.get? p=some (kla_obj "<lambda>" D.qual D.params D.body D.scope cs pm c' ctv)
structure xX (D:jk) (H:Hp) (p:Addr) (cs:List (Str × Addr)) (vs:List V):Prop where
 code:∃ c',H p=some (Jh D p cs c')∧Fz H c' (FW c' D.qual)
 ys:cs.map (·.1)=D.ys
 nd:(cs.map (·.2)).Nodup
 cells:Paired (fun (y:Str × Addr) v=>Fz H y.2 (oZ y.2 v)) cs vs
theorem IsCell.one {h1 h2:Heap}{c:Addr}{v:Option Value} (x:h1.IsCell c v) (k:∀ o,h1.get? c=some o→h2.get? c=some o):h2.IsCell c v:=by
 obtain⟨o,ho,hd⟩:=x
 exact⟨o,k o ho,hd⟩
theorem FZ {P:Program}{w:World}{H:Hp}{h:Heap}{c:Addr}{v:V}{u:Value} (r:RelV v u) (x:h.IsCell c (some u)):cu P w H h c (oZ c v):=by
 obtain⟨o,ho,hd⟩:=x
 refine⟨⟨u,r,o,ho,hd⟩,⟨o,ho⟩,fun h1 h2 y k=>?_⟩
 obtain⟨u,r,x⟩:=y
 exact⟨u,r,IsCell.one x k⟩
theorem O1 {P:Program}{w:World}{H:Hp}{h:Heap}{c:Addr}{q:Str} (x:h.CodeRec (.ref c) q):cu P w H h c (FW c q):=by
 refine⟨x,?_,fun h1 h2 x k=>?_⟩
 · obtain⟨c',o,vs,t,e,g,r⟩:=x
   cases e
   exact⟨o,g⟩
 · obtain⟨c',o,vs,t,e,g,r⟩:=x
   cases e
   exact⟨c,o,vs,t,rfl,k o g,r⟩
theorem RQ {P:Program}{w:World}{H:Hp}{h:Heap}{D:jk}{p c':Addr}{cs:List (Str × Addr)}{pm ctv:Value} (x:h.get? p=some (kla_obj "<lambda>" D.qual D.params D.body D.scope cs pm c' ctv)):cu P w H h p (Jh D p cs c'):=by
 refine⟨⟨pm,ctv,x⟩,⟨_,x⟩,fun h1 h2 y k=>?_⟩
 obtain⟨pm,ctv,x⟩:=y
 exact⟨pm,ctv,k _ x⟩
def dels (H:Hp) (ca:List Addr):Hp:=fun b=>if b∈ca then none else H b
def back (H:Hp) (ca:List Addr) (H1:Hp):Hp:=fun b=>if b∈ca then H b else H1 b
theorem qe {H:Hp}{ca:List Addr}{b:Addr} (h:b∈ca):dels H ca b=none:=if_pos h
theorem xB {H:Hp}{ca:List Addr}{b:Addr} (h:b∉ca):dels H ca b=H b:=if_neg h
theorem back_in {H H1:Hp}{ca:List Addr}{b:Addr} (h:b∈ca):back H ca H1 b=H b:=if_pos h
theorem jl {H H1:Hp}{ca:List Addr}{b:Addr} (h:b∉ca):back H ca H1 b=H1 b:=if_neg h
theorem jO {H:Hp}{ca:List Addr}{b:Addr} (h:H b=none):dels H ca b=none:=by
 by_cases e:b∈ca
 · exact qe e
 · rw [xB e];exact h
theorem aB.back {H H1:Hp}{ca:List Addr} (e:aB (dels H ca) H1):aB H (back H ca H1):=fun b u q=>by
 by_cases z:b∈ca
 · rw [back_in z];exact q
 · rw [jl z];exact e b u (by rw [xB z];exact q)
theorem pZ.dels {P:Program}{w:World}{H:Hp}{h:Heap}{ca:List Addr} (x:pZ P w H h) (f:∀ c∈ca,∃ u,Fz H c u):pZ P w (dels H ca) h:=fun b o e=>by
 by_cases hb:b∈ca
 · rw [qe hb] at e;cases e
 · rw [xB hb] at e
   refine (x b o e).stay (fun _ _ _ q=>q) (fun d q=>?_) fun d xs q=>?_
   · rw [xB fun z=>?_];exact q
     obtain⟨u,o,z⟩:=f d z
     rw [q] at z;cases z
   · rw [xB fun z=>?_];exact q
     obtain⟨u,o,z⟩:=f d z
     rw [q] at z;cases z
theorem Mp {F:Str × Addr→V→Prop}{cs:List (Str × Addr)}{vs:List V} (h:Paired F cs vs):(cs.map (·.1)).Nodup→∀ {i:Nat}{y:Str}{v:V},(cs.map (·.1))[i]? = some y→vs[i]? = some v→∃ c,cs.lookup y=some c∧F (y,c) v:=by
 induction h with
 | nil=>intro _ i y v e;simp at e
 | @cons a b la lb r t ih =>
   intro nd i y v e1 e2
   obtain⟨a1,a2⟩:=a
   cases i with
   | zero =>
     simp at e1 e2
     subst e1;subst e2
     exact⟨a2,by rw [List.lookup_cons,beq_self_eq_true],r⟩
   | succ i =>
     simp only [List.map_cons,List.getElem?_cons_succ] at e1 e2
     have Ca:=List.nodup_cons.mp nd
     obtain⟨c,q1,q2⟩:=ih Ca.2 e1 e2
     refine⟨c,?_,q2⟩
     have ne:(y == a1)=false:=beq_eq_false_iff_ne.mpr fun z=>Ca.1 (by subst z;exact List.mem_of_getElem? e1)
     rw [List.lookup_cons,ne]
     exact q1
theorem o4 {α β:Type}{F:α→β→Prop}{cs:List α}{vs:List β} (h:Paired F cs vs):∀ a∈cs,∃ v∈vs,F a v:=by
 induction h with
 | nil=>intro a z;cases z
 | cons r t ih =>
   intro a z
   rcases List.mem_cons.mp z with rfl | z
   · exact⟨_,List.mem_cons_self,r⟩
   · obtain⟨v,q,f⟩:=ih a z
     exact⟨v,List.mem_cons_of_mem _ q,f⟩
theorem RT {cs:List (Str × Addr)} (nd:(cs.map (·.2)).Nodup) {x y:Str}{c:Addr} (h1:(x,c)∈cs) (h2:(y,c)∈cs):x=y:=by
 induction cs with
 | nil=>cases h1
 | cons a l ih =>
   have Ca:=List.nodup_cons.mp nd
   rcases List.mem_cons.mp h1 with e1 | e1 <;> rcases List.mem_cons.mp h2 with e2 | e2
   · rw [← e1] at e2;cases e2;rfl
   · exact absurd (List.mem_map_of_mem (f:=(·.2)) e2) (by rw [← e1] at Ca;exact Ca.1)
   · exact absurd (List.mem_map_of_mem (f:=(·.2)) e1) (by rw [← e2] at Ca;exact Ca.1)
   · exact ih Ca.2 e1 e2
theorem KH {cs:List (Str × Addr)} (nd:(cs.map (·.1)).Nodup) {x:Str}{c d:Addr} (h1:(x,c)∈cs) (h2:(x,d)∈cs):c=d:=by
 induction cs with
 | nil=>cases h1
 | cons a l ih =>
   have Ca:=List.nodup_cons.mp nd
   rcases List.mem_cons.mp h1 with e1 | e1 <;> rcases List.mem_cons.mp h2 with e2 | e2
   · rw [← e1] at e2;cases e2;rfl
   · exact absurd (List.mem_map_of_mem (f:=(·.1)) e2) (by rw [← e1] at Ca;exact Ca.1)
   · exact absurd (List.mem_map_of_mem (f:=(·.1)) e1) (by rw [← e2] at Ca;exact Ca.1)
   · exact ih Ca.2 e1 e2
def xY (CX:Al) (P:Program) (w:World) (K:PySem.W.Frag) (mg:Str→Option Value) (base:Heap) (D:jk) (p:Addr) (cs:List (Str × Addr)) (cd:Value) (A:Around) (outer:List Env) (s:Shared) (H:Hp) (E:XK):Cx where
 prog:=P
 w:=w
 K:=K
 mg:=mg
 base:=base
 A:=A.deeper (PySem.W.envX D.qual D.scope s.heap.objs.size p cd cs)
 N:=D.x::D.ys
 s₀:=s
 H₀:=dels H (cs.map (·.2))
 env:=PySem.W.envX D.qual D.scope s.heap.objs.size p cd cs
 outer:=outer
 stack:=PySem.W.envX D.qual D.scope s.heap.objs.size p cd cs::outer
 ex:=[]
 calm:=true
 fn:=fun _=>false
 pn:=[]
 xe:=fun e s'=>wpAny (model P w) (A.deeper (PySem.W.envX D.qual D.scope s.heap.objs.size p cd cs)) (leaving (PySem.W.envX D.qual D.scope s.heap.objs.size p cd cs) e) (fun _ s''=>CX outer H s E e s'') (fun e' s''=>CX outer H s E e' s'') s'
theorem jk.Ok.lx {D:jk} (O:D.Ok):D.scope.names.lookup D.x=some .local:=by rw [O.names,List.lookup_cons,beq_self_eq_true]
theorem T6:∀ {l:List Str}{y:Str}{k:NameKind},(l.map fun y=>(y,NameKind.free)).lookup y=some k→y∈l∧k=.free
 | [],_,_,h=>by cases h
 | a::l,y,k,h=>by
   rw [List.map_cons,List.lookup_cons] at h
   cases e:y == a with
   | true=>rw [e] at h;cases h;exact⟨by rw [eq_of_beq e];exact List.mem_cons_self,rfl⟩
   | false=>rw [e] at h;obtain⟨p,q⟩:=T6 h;exact⟨List.mem_cons_of_mem _ p,q⟩
theorem O2:∀ {l:List Str}{y:Str},y∈l→(l.map fun y=>(y,NameKind.free)).lookup y=some .free
 | [],_,h=>by cases h
 | a::l,y,h=>by
   rw [List.map_cons,List.lookup_cons]
   cases e:y == a with
   | true=>rfl
   | false =>
     rcases List.mem_cons.mp h with rfl | h
     · rw [beq_self_eq_true] at e;cases e
     · exact O2 h
theorem jk.Ok.of {D:jk} (O:D.Ok) {x:Str}{k:NameKind} (h:D.scope.names.lookup x=some k):(x=D.x∧k=.local)∨(x∈D.ys∧k=.free):=by
 rw [O.names,List.lookup_cons] at h
 cases e:x == D.x with
 | true=>rw [e] at h;cases h;exact .inl ⟨eq_of_beq e,rfl⟩
 | false =>
   rw [e] at h
   obtain⟨p,q⟩:=T6 h
   exact .inr ⟨List.mem_reverse.mp p,q⟩
theorem jk.Ok.ly {D:jk} (O:D.Ok) {y:Str} (h:y∈D.ys):D.scope.names.lookup y=some .free:=by
 have ne:(y == D.x)=false:=beq_eq_false_iff_ne.mpr fun z=>(List.nodup_cons.mp O.nd).1 (by rw [← z];exact h)
 rw [O.names,List.lookup_cons,ne]
 exact O2 (List.mem_reverse.mpr h)
theorem uI {cs:List (Str × Addr)}{y:Str} (h:y∈cs.map (·.1)):∃ c,cs.lookup y=some c:=by
 induction cs with
 | nil=>cases h
 | cons a l ih =>
   obtain⟨a1,a2⟩:=a
   rw [List.lookup_cons]
   cases e:y == a1 with
   | true=>exact⟨a2,rfl⟩
   | false =>
     rcases List.mem_cons.mp h with rfl | h
     · rw [beq_self_eq_true] at e;cases e
     · exact ih h
theorem RV {CX:Al}{P:Program}{w:World}{K:PySem.W.Frag}{mg:Str→Option Value}{base:Heap}{D:jk}{p:Addr}{cs:List (Str × Addr)}{cd:Value}{A:Around}{outer:List Env}{s:Shared}{h1:Heap}{tk:Tok}{H:Hp}{E:XK}{u:Value}{v:V}{vs:List V}{m:Str→Option Value}
   (O:D.Ok) (hd:A.handled=none) (e0:sI P w K mg base A outer s H) (L:xX D H p cs vs) (r:RelV v u)
   (hn:h1.Ns s.heap.objs.size m) (hm:m D.x=some u) (hk:∀ b o,s.heap.get? b=some o→h1.get? b=some o) :
   Inv (xY CX P w K mg base D p cs cd A outer s H E) [] (some v::vs.map some) (dels H (cs.map (·.2))) { s with heap:=h1,toks:=tk }:=by
 have Rp:∀ b:Addr,b∉(xY CX P w K mg base D p cs cd A outer s H E).ex:=fun b z=>absurd (show b∈([]:List Addr) from z) (by simp)
 have cell:∀ {y:Str}{c:Addr}{v:V},Fz H c (oZ c v)→∃ uc,RelV v uc∧s.heap.IsCell c (some uc):=fun {y c v} f=>by
   obtain⟨o,e⟩:=f
   exact (e0.hok _ _ e).2.1
 have fz:∀ c∈cs.map (·.2),∃ u,Fz H c u:=fun c hc=>by
   obtain⟨q,hq,rfl⟩:=List.mem_map.mp hc
   obtain⟨v,_,f⟩:=o4 L.cells q hq
   exact⟨_,f⟩
 refine⟨⟨e0.mod,O.kind,rfl,rfl,Nat.le_refl _,fun y z c h1 h2=>RT L.nd (PySem.mem_of_lookup h1) (PySem.mem_of_lookup h2),fun y hy=>?_,fun y c h _=>(by cases (show false=true from h)),fun _=>hd,Around.frames_deeper e0.frames,.inr ⟨rfl,rfl⟩,fun b z=>absurd z (Rp b),fun b o e=>⟨(e0.bs b o e).1,jO (e0.bs b o e).2⟩,e0.Lk,fun b _ _=>Rp b,fun b z=>absurd z (Rp b),e0.oO,fun b hb=>jO (e0.Nk b hb)⟩,
   rfl,e0.bare,Un.kept hk,⟨m,hn,fun i y v' h1 h2 h3=>?_⟩,fun y c h=>?_,jO (e0.hok.fresh (Nat.le_refl _)),fun y c h=>qe (List.mem_map_of_mem (f:=(·.2)) (PySem.mem_of_lookup h)),fun p hp=>absurd (show p∈([]:List (Addr × Obj)) from hp) (by simp),((e0.hok.dels fz).kept hk),?_⟩
 · rcases hy with hy | hy
   · rcases O.of hy with ⟨_,e⟩ | ⟨_,e⟩ <;> cases e
   · rcases O.of hy with ⟨_,e⟩ | ⟨e,_⟩
     · cases e
     · exact uI (cs:=cs) (by rw [L.ys];exact e)
 · cases i with
   | zero =>
     cases h1;cases h2
     exact⟨u,r,.inl ⟨O.lx,hm⟩⟩
   | succ i =>
     have h1:D.ys[i]? = some y:=h1
     have h2:(vs.map some)[i]? = some (some v'):=h2
     rw [List.getElem?_map] at h2
     have h2':vs[i]? = some v':=by
       cases q:vs[i]? with
       | none=>rw [q] at h2;cases h2
       | some z=>rw [q] at h2;cases h2;rfl
     obtain⟨c,e1,e2⟩:=Mp L.cells (by rw [L.ys];exact (List.nodup_cons.mp O.nd).2) (by rw [L.ys];exact h1) h2'
     obtain⟨uc,rc,hc⟩:=cell (y:=y) e2
     exact⟨uc,rc,.inr ⟨.inr (O.ly (List.mem_of_getElem? h1)),c,e1,IsCell.one hc (hk _)⟩⟩
 · obtain⟨v,_,f⟩:=o4 L.cells _ (PySem.mem_of_lookup h)
   obtain⟨uc,rc,hc⟩:=cell (y:=y) f
   exact⟨_,IsCell.one hc (hk _)⟩
 · have e1:=congrArg List.length L.ys
   have e2:cs.length=vs.length:=Paired.length L.cells
   show (some v::vs.map some).length=(D.x::D.ys).length
   simp at e1 ⊢
   omega
end L2
namespace L2
open PySem PySem.Spec PyProof.Rows PySem.Calls
open PySem.W (tabObj CodeHd kla_obj kla_fn)
theorem RW {CX:Al}{P:Program}{w:World}{K:PySem.W.Frag}{mg:Str→Option Value}{base:Heap}{D:jk}{k:Nat}{tb:TE} (O:D.Ok)
   (hbody:∀ (p:Addr) (cs:List (Str × Addr)) (cd:Value) (A:Around) (outer:List Env) (s:Shared) (H:Hp) (E:XK),dO k (A.deeper (PySem.W.envX D.qual D.scope s.heap.objs.size p cd cs))→PE (xY CX P w K mg base D p cs cd A outer s H E) D.body tb)
   {A:Around}{outer:List Env}{s:Shared}{H:Hp}{p:Addr}{cs:List (Str × Addr)}{u:Value}{x:V}{vs:List V}{Q:VK}{E:XK} (hr:dO (k+1) A) (e0:sI P w K mg base A outer s H)
   (L:xX D H p cs vs) (r:RelV x u)
   (h:tb (some x::vs.map some) (dels H (cs.map (·.2))) (fun y H1=>Q y (back H (cs.map (·.2)) H1))) :
   codeAny (model P w) A (.call (.ref p) ⟨[u],[]⟩) (CR CX outer P w H s Q E) s:=by
 obtain⟨c',hp,oc,hcd⟩:=L.code
 obtain⟨⟨pm,ctv,ho⟩,_,_⟩:=e0.hok _ _ hp
 have hrec:s.heap.CodeRec (.ref c') D.qual:=(e0.hok _ _ hcd).2.1
 have lim:s.heap.NoLimit:=e0.mod.nolimit.keeps fun b o e=>(e0.bs b o e).1
 refine PySem.W.kla_callFunE hr.depth ho rfl O.co O.gen rfl hrec ?_
 rw [O.bind]
 refine wpAny_pure (wpAny_newFunctionEnv (fun y hy=>?_) (fun y hy=>?_) (fun h₁ hns hsb=>⟨lim.fresh _ hsb,?_⟩) O.kind)
 · have hy:y∈D.scope.names:=hy
   rw [O.names] at hy
   rcases List.mem_cons.mp hy with rfl | hy
   · intro z;cases z
   · obtain⟨q,_,rfl⟩:=List.mem_map.mp hy;intro z;cases z
 · rw [List.mem_singleton.mp hy];exact O.lx
 show codeAny _ _ (.expr D.body (PySem.W.envX D.qual D.scope s.heap.objs.size p (.ref c') cs)) _ _
 have hk₁:∀ b o,s.heap.get? b=some o→h₁.get? b=some o:=fun b o e=>hsb.extBut b o (Nat.ne_of_lt (Heap.lt_size e)) (Heap.get?_push_of_some _ e)
 have I:Inv (xY CX P w K mg base D p cs (.ref c') A outer s H E) [] (some x::vs.map some) (dels H (cs.map (·.2))) { s with heap:=h₁,toks:=s.toks+1 } :=
   RV O hr.hd e0 L r hns (by show List.lookup D.x [(D.x,u)]=_;rw [List.lookup_cons,beq_self_eq_true]) hk₁
 refine PySem.W.kla_codeExpr (wpAny_mono (hbody p cs (.ref c') A outer s H E (hr.deeper _) [] _ _ _ _ I h) (fun y s' hs=>?_) fun e s' hs=>hs)
 obtain⟨v',H',J,rv,q⟩:=hs
 have fz:∀ c∈cs.map (·.2),∃ o u,H c=some (.qp o u):=fun c hc=>by
   obtain⟨z,hz,rfl⟩:=List.mem_map.mp hc
   obtain⟨v,_,o,f⟩:=o4 L.cells z hz
   exact⟨o,_,f⟩
 have un:=J.base
 have Aj:∀ b:Addr,b∉(xY CX P w K mg base D p cs (.ref c') A outer s H E).ex:=fun b z=>absurd (show b∈([]:List Addr) from z) (by simp)
 have inn:∀ {b:Addr}{u:HO},b∈cs.map (·.2)→(∀ o v,u≠.qp o v)→H b≠some u:=fun {b u} hb n e=>by
   obtain⟨o,v,z⟩:=fz b hb
   rw [e] at z;cases z;exact n _ _ rfl
 have T7:∀ b∈cs.map (·.2),∀ o,s.heap.get? b=some o→s'.heap.get? b=some o:=fun b hb o e=>un.keep b o e (qe hb) (fun z=>by
   obtain⟨o',u',z'⟩:=fz b hb
   have:=e0.Nk b z;rw [z'] at this;cases this) (Aj b)
 refine⟨v',back H (cs.map (·.2)) H',J.os,J.bare,⟨fun b o e n hb hx=>un.keep b o e (jO n) hb (Aj b),fun b o e n hb hx=>un.slot b o e (jO n) hb (Aj b),fun b o e n hx=>?_,fun b o e hx=>un.there b o e (Aj b),fun b xs e=>?_,fun b o z e=>?_,fun b ps e=>?_⟩,fun b o e=>?_,rv,q⟩
 · by_cases hb:b∈cs.map (·.2)
   · rw [back_in hb];exact n
   · rw [jl hb];exact un.free b o e (jO n) (Aj b)
 · have hb:b∉cs.map (·.2):=fun hb=>inn hb (fun _ _ z=>by cases z) e
   rw [jl hb];exact un.tups b xs (by show dels H _ b=_;rw [xB hb];exact e)
 · by_cases hb:b∈cs.map (·.2)
   · rw [back_in hb];exact e
   · rw [jl hb];exact un.lZ b o z (by show dels H _ b=_;rw [xB hb];exact e)
 · have hb:b∉cs.map (·.2):=fun hb=>inn hb (fun _ _ z=>by cases z) e
   rw [jl hb];exact un.mU b ps (by show dels H _ b=_;rw [xB hb];exact e)
 · have own:∀ d,H' d=some (.own b)→back H (cs.map (·.2)) H' d=some (.own b):=fun d z=>by
     have hd:d∉cs.map (·.2):=fun hd=>by
       obtain⟨y,hy,e⟩:=List.mem_map.mp hd
       have hl:∃ y,cs.lookup y=some d:=by
         obtain⟨y1,y2⟩:=y
         have e:y2=d:=e
         subst e
         obtain⟨c,hc⟩:=uI (cs:=cs) (List.mem_map_of_mem (f:=(·.1)) hy)
         have hc2:=PySem.mem_of_lookup hc
         have ndf:(cs.map (·.1)).Nodup:=by rw [L.ys];exact (List.nodup_cons.mp O.nd).2
         have:c=y2:=KH ndf hc2 hy
         subst this
         exact⟨y1,hc⟩
       obtain⟨y,hl⟩:=hl
       have:=J.jh y d hl
       rw [z] at this;cases this
     rw [jl hd];exact z
   have tup:∀ d xs,H' d=some (.tup xs)→back H (cs.map (·.2)) H' d=some (.tup xs):=fun d xs z=>by
     have hd:d∉cs.map (·.2):=fun hd=>by
       obtain⟨y,hy,e⟩:=List.mem_map.mp hd
       have hl:∃ y,cs.lookup y=some d:=by
         obtain⟨y1,y2⟩:=y
         have e:y2=d:=e
         subst e
         obtain⟨c,hc⟩:=uI (cs:=cs) (List.mem_map_of_mem (f:=(·.1)) hy)
         have hc2:=PySem.mem_of_lookup hc
         have ndf:(cs.map (·.1)).Nodup:=by rw [L.ys];exact (List.nodup_cons.mp O.nd).2
         have:c=y2:=KH ndf hc2 hy
         subst this
         exact⟨y1,hc⟩
       obtain⟨y,hl⟩:=hl
       have:=J.jh y d hl
       rw [z] at this;cases this
     rw [jl hd];exact z
   by_cases hb:b∈cs.map (·.2)
   · rw [back_in hb] at e
     obtain⟨o',u',z⟩:=fz b hb
     rw [z] at e;cases e
     obtain⟨y,hy,ey⟩:=List.mem_map.mp hb
     obtain⟨v,_,ob,f⟩:=o4 L.cells y hy
     rw [ey] at f
     rw [z] at f;cases f
     obtain⟨g1,g2⟩:=e0.hok b _ z
     obtain⟨⟨uc,rc,hcell⟩,_,_⟩:=g2
     exact⟨T7 b hb _ g1,FZ rc (IsCell.one hcell fun o q=>T7 b hb o q)⟩
   · rw [jl hb] at e
     exact (J.hok b o e).stay (fun _ _ _ q=>q) own tup
def VB (D:jk) (tb tf:TE) (t:TA):TE:=fun σ H Q=>tf σ H fun f H1=>∃ p,f=.ref p∧t σ H1 fun vs H2=>∃ x cs ws,vs=[x]∧xX D H2 p cs ws ∧
 tb (some x::ws.map some) (dels H2 (cs.map (·.2))) fun y H3=>Q y (back H2 (cs.map (·.2)) H3)
theorem Gb {X:Cx}{CX:Al}{D:jk}{k:Nat}{tb tf:TE}{t:TA}{x:Str}{p pos:Pos}{e:Expr}{E:XK} (O:D.Ok)
   (hbody:∀ (p:Addr) (cs:List (Str × Addr)) (cd:Value) (A:Around) (outer:List Env) (s:Shared) (H:Hp) (E:XK),dO k (A.deeper (PySem.W.envX D.qual D.scope s.heap.objs.size p cd cs))→PE (xY CX X.prog X.w X.K X.mg X.base D p cs cd A outer s H E) D.body tb)
   (hr:dO (k+1) X.A) (hx:Passes CX X E) (hf:PE X (.Name x p) tf) (ha:PA X [e] t) (he:starEach [e] X.env=(false,eval e X.env)::starEach [] X.env:=by rfl) :
   PE X (.Call (.Name x p) [e] [] pos) (VB D tb tf t):=by
 intro pins s σ H Q I h
 refine wpAny_Call_Name_kw (dm (hf pins s σ H _ I h) fun f s1 zq=>?_)
 obtain⟨fv,H1,I1,rf,q,ef,h1⟩:=zq
 subst ef
 obtain rfl:f=Value.ref q:=rf
 have h2:=ha pos pins s1 σ H1 _ I1 h1
 rw [he] at h2
 show wpAny _ _ (callWith pos (.ref q) [] (backTo pos (starEach [e] X.env)) []) _ _ _
 rw [he]
 refine PySem.W.callWith_of (P:=PySem.W.FnAt q) rfl PySem.W.keeps_F (evalArgs_plain (dm h2 fun us s2 zq=>?_))
 obtain⟨vs,H2,I2,rvs,y,cs,ws,ev,L,hb⟩:=zq
 subst ev
 obtain⟨c',hp,_⟩:=L.code
 obtain⟨⟨pm,ctv,ho⟩,_,_⟩:=I2.hok _ _ hp
 refine⟨⟨_,_,_,_,ho⟩,?_⟩
 cases rvs with
 | cons r rest =>
   cases rest
   refine wpAny_call (codeAny_mono (RW (E:=E) O hbody hr I2.env0 L r hb) fun r s' hq=>?_)
   cases r with
   | error e=>exact hx pins σ H2 s2 e s' I2 hq
   | ok fl =>
     cases fl with
     | ret u=>exact I2.after hq
     | next=>exact False.elim hq
     | brk=>exact False.elim hq
     | cont=>exact False.elim hq
def BMain (mg:Str→Option Value) (h:Heap):Prop:=∃ bm ob,mg "__builtins__" = some (.ref bm)∧bm≠builtinsNs∧h.get? bm=some ob∧ob.cls=.type "module"∧ob.dict=some builtinsNs∧ob.data=.plain
def qZ (env:Env) (ys:List Str):List (Str × Addr):=ys.map fun y=>(y,(env.cells.lookup y).getD 0)
theorem xZ {f:(Str × NameKind)→List (Str × Addr)→Sem (ForInStep (List (Str × Addr)))}{c:Str→Addr}:∀ (l:List Str) (acc:List (Str × Addr)),(∀ y∈l,∀ acc,f (y,.free) acc=pure (.yield ((y,c y)::acc))) →
   forIn (l.map fun y=>(y,NameKind.free)) acc f=pure ((l.reverse.map fun y=>(y,c y))++acc)
 | [],acc,_=>by simp
 | y::l,acc,h=>by
   rw [List.map_cons,List.forIn_cons,h y List.mem_cons_self]
   simp only [pure_bind]
   rw [xZ l ((y,c y)::acc) fun z hz=>h z (List.mem_cons_of_mem _ hz)]
   simp
theorem O3 {D:jk} (O:D.Ok) {env:Env} (h:∀ y∈D.ys,∃ c,env.cells.lookup y=some c):closureFor D.scope env=pure (qZ env D.ys):=by
 unfold closureFor
 simp only []
 rw [O.names,List.forIn_cons]
 simp only [show (NameKind.local == NameKind.free)=false from rfl,pure_bind,Bool.false_eq_true,if_false]
 rw [xZ (c:=fun y=>(env.cells.lookup y).getD 0) D.ys.reverse [] fun y hy acc=>?_]
 · simp [qZ]
 · obtain⟨c,e⟩:=h y (List.mem_reverse.mp hy)
   have e':cellOf env y=pure c:=by unfold cellOf;rw [e]
   simp [e',e]
def O5 (P:Addr) (H H':Hp):Prop:=∀ b u,b≠P→H b=some u→H' b=some u
def dI (q:Str) (pos:Pos):Array Value:=#[.str q 0,rawInt pos.line,rawInt pos.col]
theorem T8 {P:Program}{w:World}{outer:List Env}{s:Shared}{h2:Heap}{H:Hp}{Q:VK}{D:jk}{Pt c' p:Addr}{cs:List (Str × Addr)}{pos:Pos}{pm ctv:Value}{tk:Tok}
   (hok:pZ P w H s.heap) (hT:H Pt=some (.lD (dI D.qual pos))) (hx:∀ b o,b≠Pt→s.heap.get? b=some o→h2.get? b=some o) (hP2:h2.get? Pt=some (tabObj #[rawInt pos.line,rawInt pos.col,.ref c']))
   (hrec:h2.CodeRec (.ref c') D.qual) (hp:h2.get? p=some (kla_obj "<lambda>" D.qual D.params D.body D.scope cs pm c' ctv))
   (fp:s.heap.objs.size≤p) (f':(H c'=none∧s.heap.objs.size≤c')∨H c'=some (.own Pt)) (bare:AllBare s.gens)
   (q:∀ H',H p=none→O5 Pt H H'→H' Pt=some (.lD (dI D.qual pos ++ #[.ref c']))→H' p=some (Jh D p cs c')→H' c'=some (.own Pt)→Q (.ref p) H') :
   CE outer P w H s Q (.ref p) { s with heap:=h2,toks:=tk }:=by
 obtain⟨c2,o',vs',t',e',ho',hd',hv'⟩:=id hrec
 cases e'
 have hPlt:Pt<s.heap.objs.size:=(hok _ _ hT).lt
 have np:H p=none:=hok.fresh fp
 have n2:p≠c':=by rintro rfl;rw [hp] at ho';cases ho';cases hd'
 have n4:Pt≠p:=Nat.ne_of_lt (Nat.lt_of_lt_of_le hPlt fp)
 have n6:Pt≠c':=by
   rintro rfl
   rcases f' with ⟨e,_⟩ | e
   · rw [hT] at e;cases e
   · rw [hT] at e;cases e
 generalize eH:upd (upd (upd H Pt (.lD (dI D.qual pos ++ #[.ref c']))) c' (.own Pt)) p (Jh D p cs c')=H'
 have g1:H' p=some (Jh D p cs c'):=by rw [← eH];exact zB
 have g3:H' c'=some (.own Pt):=by rw [← eH,zI n2.symm];exact zB
 have g4:H' Pt=some (.lD (dI D.qual pos ++ #[.ref c'])):=by rw [← eH,zI n4,zI n6];exact zB
 have g5:∀ b,b≠p→b≠c'→b≠Pt→H' b=H b:=fun b a1 a3 a4=>by rw [← eH,zI a1,zI a3,zI a4]
 have sb:O5 Pt H H':=fun b o hb e=>by
   have a1:b≠p:=zH e np
   by_cases a3:b=c'
   · subst a3
     rcases f' with ⟨z,_⟩ | z
     · rw [z] at e;cases e
     · rw [z] at e;cases e;exact g3
   · rw [g5 b a1 a3 hb];exact e
 have old:∀ b o,s.heap.get? b=some o→H b=none→b≠Pt∧H' b=none:=fun b o e n=>by
   have lt:=Heap.lt_size e
   have a4:b≠Pt:=by rintro rfl;rw [hT] at n;cases n
   refine⟨a4,?_⟩
   rw [g5 b (Nat.ne_of_lt (Nat.lt_of_lt_of_le lt fp)) ?_ a4]
   · exact n
   · rintro rfl
     rcases f' with ⟨_,z⟩ | z
     · exact absurd (Nat.lt_of_lt_of_le lt z) (Nat.lt_irrefl _)
     · rw [n] at z;cases z
 refine⟨.ref p,H',rfl,bare,⟨fun b o e n _ _=>hx b o (old b o e n).1 e,fun b o e n _ _=>⟨o.slots,hx b o (old b o e n).1 e⟩,fun b o e n _=>(old b o e n).2,fun b o e _=>?_,fun b xs e=>?_,fun b o z e=>?_,fun b qs e=>?_⟩,fun b o e=>?_,rfl,q H' np sb g4 g1 g3⟩
 · by_cases hb:b=Pt
   · exact⟨_,by rw [hb];exact hP2⟩
   · exact⟨o,hx b o hb e⟩
 · exact sb b _ (by rintro rfl;rw [hT] at e;cases e) e
 · exact sb b _ (by rintro rfl;rw [hT] at e;cases e) e
 · by_cases hb:b=Pt
   · subst hb
     rw [hT] at e;cases e
     exact⟨_,g4⟩
   · exact⟨#[],by rw [sb b _ hb e];simp⟩
 · by_cases a1:b=p
   · subst a1;rw [g1] at e;cases e;exact RQ hp
   by_cases a3:b=c'
   · subst a3;rw [g3] at e;cases e;exact⟨_,ho'⟩
   by_cases a4:b=Pt
   · subst a4;rw [g4] at e;cases e
     exact⟨_,hP2,.inr ⟨D.qual,_,_,c',rfl,.inr rfl,g3,hrec⟩⟩
   rw [g5 b a1 a3 a4] at e
   refine (hok b o e).stay (fun d z hd ez=>hx d z ?_ ez) (fun d z=>sb d _ ?_ z) fun d xs z=>sb d _ ?_ z
   · rcases hd with rfl | hd
     · exact a4
     · rintro rfl;rw [hT] at hd;cases hd
   · rintro rfl;rw [hT] at z;cases z
   · rintro rfl;rw [hT] at z;cases z
def Z9 (D:jk) (env:Env) (Pt:Addr) (pos:Pos):TE:=fun _ H Q=>H Pt=some (.lD (dI D.qual pos))∧∀ p c' H',H p=none→O5 Pt H H'→H' Pt=some (.lD (dI D.qual pos ++ #[.ref c'])) →
 H' p=some (Jh D p (qZ env D.ys) c')→H' c'=some (.own Pt)→Q (.ref p) H'
theorem RX {X:Cx}{D:jk}{c Pt:Addr}{pos:Pos} (O:D.Ok) (hq:X.env.qual ++ "<lambda>" = D.qual) (hdef:defaultsOf D.params X.env=([],[])) (hcv:X.env.code=.ref c) (hch:PySem.W.codeHdIn X.K c Pt=true) (hB:BMain X.mg X.base)
   (hys:∀ y∈D.ys,X.env.kindOf y=some .cell):PE X (.Lambda D.params D.body D.scope pos) (Z9 D X.env Pt pos):=by
 intro pins s σ H Q I h
 obtain⟨hT,h⟩:=h
 have hclos:=O3 O (env:=X.env) fun y hy=>I.ok.has y (.inl (hys y hy))
 have hgs:s.heap.Ns mainGlobals X.mg:=I.mod.glob.keeps I.bk
 have C:CodeHd s.heap c Pt:=PySem.W.codeHd_of_K I.wY hch
 have hsome:H Pt≠none:=by rw [hT];simp
 have hgP:mainGlobals≠Pt:=fun e=>by
   obtain⟨o,_,_,z,_⟩:=I.mod.glob
   exact hsome (e ▸ (I.bs _ _ z).2)
 have hBA:s.heap.BuiltinsAt X.mg Pt:=by
   obtain⟨bm,ob,a1,a2,a3,a4,a5,a6⟩:=hB
   refine⟨bm,ob,a1,a2,fun e=>?_,fun e=>hsome (e ▸ (I.bs _ _ a3).2),(I.bs _ _ a3).1,a4,a5,a6⟩
   obtain⟨o,_,_,z,d,_⟩:=I.mod.glob
   rw [e,z] at a3;cases a3;rw [d] at a6;cases a6
 refine PySem.W.kla_eval hdef ?_
 rw [hq]
 obtain⟨ts,hP,hd⟩:=I.hok _ _ hT
 rcases hd with ⟨rfl,_⟩ | ⟨q,ln,cl,c',rfl,e2,e3,hrec⟩
 · refine PySem.W.kla_makeFunction (mg:=X.mg) hclos I.ok.glob hgs hcv C hP trivial rfl hgP hBA fun c' ctv h' tk hx hge hlt hrec htb=>?_
   refine I.after (T8 (pos:=pos) I.hok hT (fun b o hb e=>Heap.get?_push_of_some _ (hx b o hb e)) (Heap.get?_push_of_some _ (by simpa using htb)) (hrec.push _) (Heap.get?_push_size _ rfl) (Nat.le_trans hge (Nat.le_of_lt hlt)) (.inl ⟨I.hok.fresh hge,hge⟩) I.bare fun H' np sb q1 q2 q3=>?_)
   exact h _ c' H' np sb q1 q2 q3
 · have e2':q=D.qual∧ln=rawInt pos.line∧cl=rawInt pos.col:=by
     rcases e2 with e2 | e2
     · have e2:=congrArg Array.toList e2
       simp [dI] at e2
       obtain⟨a,b,c⟩:=e2
       exact⟨a.symm,b.symm,c.symm⟩
     · have e2:=congrArg Array.toList e2
       simp [dI] at e2
   obtain⟨rfl,rfl,rfl⟩:=e2'
   refine PySem.W.kla_makeFunctionHit (mg:=X.mg) (cv:=.ref c') hclos I.ok.glob hgs hcv C hP trivial (by simp [codeAmong,rawInt]) hBA fun ctv h' tk hx hsz=>?_
   have hk:∀ b o,s.heap.get? b=some o→(h'.push { cls:=.type "function",data:=.func (kla_fn "<lambda>" D.qual D.params D.body D.scope (qZ X.env D.ys) ((X.mg "__name__").getD .none) (.ref c') ctv) }).get? b=some o:=fun b o e=>Heap.get?_push_of_some _ (hx b o e)
   refine I.after (T8 (pos:=pos) I.hok hT (fun b o _ e=>hk b o e) (hk _ _ hP) ?_ (Heap.get?_push_size _ rfl) hsz (.inr e3) I.bare fun H' np sb q1 q2 q3=>?_)
   · obtain⟨c2,o2,vs2,t2,e2,g2,r2⟩:=hrec
     cases e2
     exact⟨c',o2,vs2,t2,rfl,hk _ _ g2,r2⟩
   · exact h _ c' H' np sb q1 q2 q3
end L2
namespace L2
open PySem PySem.Spec PyProof.Rows PySem.Calls
open PySem.W (tabObj CodeHd kla_obj kla_fn)
def ov (O H:Hp):Hp:=fun b=>match O b with | some o=>some o | none=>H b
def Mq (O H H3:Hp):Hp:=fun b=>match O b with | some _=>H b | none=>H3 b
theorem wV {O H:Hp}{b:Addr}{o:HO} (e:O b=some o):ov O H b=some o:=by unfold ov;rw [e]
theorem xN {O H:Hp}{b:Addr} (e:O b=none):ov O H b=H b:=by unfold ov;rw [e]
theorem jP {O H H3:Hp}{b:Addr} (e:O b≠none):Mq O H H3 b=H b:=by
 unfold Mq
 cases q:O b with
 | none=>exact absurd q e
 | some o=>rfl
theorem xK {O H H3:Hp}{b:Addr} (e:O b=none):Mq O H H3 b=H3 b:=by unfold Mq;rw [e]
section
variable {X:Cx}{pins:List (Addr × Obj)}{σ:St}{H O:Hp}{s s':Shared}
theorem Inv.lend (I:Inv X pins σ H s) (fz:∀ b o,O b=some o→∃ ob u,o=.qp ob u∧s.heap.get? b=some ob∧∀ H',cu X.prog X.w H' s.heap b u)
   (own1:∀ b y,O b≠none→H b=some (.own y)→O y≠none) (res:∀ b o,O b≠none→H b=some o→∀ (H':Hp) (h':Heap),(∀ d ob,O d≠none→s.heap.get? d=some ob→h'.get? d=some ob)→(∀ d,O d≠none→H' d=H d)→cu X.prog X.w H' h' b o) (tup:∀ b xs,O b≠none→H b≠some (.tup xs))
   (bs:∀ b o,X.base.get? b=some o→O b=none) (fr:∀ b∈frs X.stack,O b=none) :
   sI X.prog X.w X.K X.mg X.base X.A X.stack s (ov O H)∧∀ (Q:VK) (u:Value) (s':Shared),CE X.stack X.prog X.w (ov O H) s (fun v H3=>(∀ b o,O b=some o→H3 b=some o)→Q v (Mq O H H3)) u s'→CE X.stack X.prog X.w H s Q u s':=by
 have e0:=I.env0
 refine⟨⟨e0.frames,e0.mod,fun b o e=>⟨(e0.bs b o e).1,by rw [xN (bs b o e)];exact (e0.bs b o e).2⟩,e0.Lk,e0.oO,fun b hb=>by rw [xN (fr b hb)];exact e0.Nk b hb,fun b o e=>?_,e0.bare⟩,fun Q u s' h=>?_⟩
 · cases q:O b with
   | some o' =>
     rw [wV q] at e;cases e
     obtain⟨ob,u,rfl,g,k⟩:=fz b _ q
     exact⟨g,k _⟩
   | none =>
     rw [xN q] at e
     refine (I.hok b o e).stay (fun _ _ _ z=>z) (fun d z=>?_) fun d xs z=>?_
     · cases q2:O d with
       | none=>rw [xN q2];exact z
       | some _=>exact absurd q (own1 d b (by rw [q2];simp) z)
     · cases q2:O d with
       | none=>rw [xN q2];exact z
       | some _=>exact absurd z (tup d xs (by rw [q2];simp))
 · obtain⟨v,H3,os,bare,un,hok,r,q⟩:=h
   have same:∀ b o,O b=some o→H3 b=some o∧∃ ob u,o=.qp ob u∧s.heap.get? b=some ob∧s'.heap.get? b=some ob:=fun b o e=>by
     obtain⟨ob,u,rfl,g,_⟩:=fz b _ e
     have z:=un.lZ b ob u (wV e)
     exact⟨z,ob,u,rfl,g,(hok b _ z).1⟩
   refine⟨v,Mq O H H3,os,bare,⟨fun b o e n hb hx=>?_,fun b o e n hb hx=>?_,fun b o e n hx=>?_,un.there,fun b xs e=>?_,fun b o z e=>?_,fun b ps e=>?_⟩,fun b o e=>?_,r,q fun b o e=>(same b o e).1⟩
   · cases z:O b with
     | none=>exact un.keep b o e (by rw [xN z];exact n) hb hx
     | some o' =>
       obtain⟨_,ob,u,_,g1,g2⟩:=same b o' z
       rw [e] at g1;cases g1;exact g2
   · exact un.slot b o e (by rw [xN (fr b hb)];exact n) hb hx
   · cases z:O b with
     | none=>rw [xK z];exact un.free b o e (by rw [xN z];exact n) hx
     | some o'=>rw [jP (by rw [z];simp)];exact n
   · cases z:O b with
     | none=>rw [xK z];exact un.tups b xs (by rw [xN z];exact e)
     | some o'=>exact absurd e (tup b xs (by rw [z];simp))
   · cases y:O b with
     | none=>rw [xK y];exact un.lZ b o z (by rw [xN y];exact e)
     | some o'=>rw [jP (by rw [y];simp)];exact e
   · cases y:O b with
     | none=>rw [xK y];exact un.mU b ps (by rw [xN y];exact e)
     | some o'=>rw [jP (by rw [y];simp)];exact⟨#[],by rw [e];simp⟩
   · cases y:O b with
     | none =>
       rw [xK y] at e
       refine (hok b o e).stay (fun _ _ _ z=>z) (fun d z=>?_) fun d xs z=>?_
       · cases q2:O d with
         | none=>rw [xK q2];exact z
         | some o2 =>
           obtain⟨g,ob,u,rfl,_⟩:=same d o2 q2
           rw [z] at g;cases g
       · cases q2:O d with
         | none=>rw [xK q2];exact z
         | some o2 =>
           obtain⟨g,ob,u,rfl,_⟩:=same d o2 q2
           rw [z] at g;cases g
     | some o' =>
       have hb:O b≠none:=by rw [y];simp
       rw [jP hb] at e
       refine res b o hb e _ _ (fun d ob hd ez=>?_) fun d hd=>jP hd
       cases q2:O d with
       | none=>exact absurd q2 hd
       | some o2 =>
         obtain⟨_,ob,u,_,g1,g2⟩:=same d o2 q2
         rw [ez] at g1;cases g1;exact g2
end
structure O6 (H H2:Hp) (Pt c':Addr) (q:Str) (cs:List (Str × Addr)) (ws:List V):Prop where
 code:Fz H2 c' (FW c' q)
 nd:(cs.map (·.2)).Nodup
 cells:Paired (fun (y:Str × Addr) v=>Fz H2 y.2 (oZ y.2 v)) cs ws
 keep:∀ b o,H b=some o→b≠Pt→b≠c'→H2 b=some o
structure Rest (H H3 H4:Hp) (Pt c':Addr):Prop where
 old:∀ b o,H b=some o→(b=Pt∨b=c'∨H3 b=some o)→H4 b=some o
 new:∀ b o,H3 b=some o→(∀ ob u,o≠.qp ob u)→H4 b=some o
theorem O6.same {H H2 H3 H4:Hp}{Pt c':Addr}{q:Str}{cs:List (Str × Addr)}{ws:List V} (L:O6 H H2 Pt c' q cs ws) (e:aB H2 H3) (r:Rest H H3 H4 Pt c'):aB H H4:=fun b o z=>by
 by_cases h1:b=Pt
 · exact r.old b o z (.inl h1)
 by_cases h2:b=c'
 · exact r.old b o z (.inr (.inl h2))
 exact r.old b o z (.inr (.inr (e b o (L.keep b o z h1 h2))))
def O7 (h:Heap):List (Addr × V)→Hp
 | [],_=>none
 | (c,v)::r,b=>if b=c then (h.get? c).map fun o=>.qp o (oZ c v) else O7 h r b
def KJ (h:Heap) (Pt c':Addr) (q:Str) (cv:List (Addr × V)):Hp:=fun b=>if b=Pt then (h.get? Pt).map fun o=>.qp o (.own Pt) else if b=c' then (h.get? c').map fun o=>.qp o (FW c' q) else O7 h cv b
theorem sZ {h:Heap}:∀ {cv:List (Addr × V)}{b:Addr}{o:HO},O7 h cv b=some o→∃ v ob,(b,v)∈cv∧h.get? b=some ob∧o=.qp ob (oZ b v)
 | [],_,_,e=>by cases e
 | (c,v)::r,b,o,e=>by
   unfold O7 at e
   by_cases hb:b=c
   · rw [if_pos hb] at e
     subst hb
     cases q:h.get? b with
     | none=>rw [q] at e;cases e
     | some ob=>rw [q] at e;cases e;exact⟨v,ob,List.mem_cons_self,rfl,rfl⟩
   · rw [if_neg hb] at e
     obtain⟨v',ob,m,g⟩:=sZ e
     exact⟨v',ob,List.mem_cons_of_mem _ m,g⟩
theorem KN {h:Heap}:∀ {cs:List (Str × Addr)}{ws:List V},Paired (fun (y:Str × Addr) (v:V)=>∃ o,h.get? y.2=some o) cs ws→(cs.map (·.2)).Nodup→Paired (fun (y:Str × Addr) v=>Fz (O7 h ((cs.map (·.2)).zip ws)) y.2 (oZ y.2 v)) cs ws
 | _,_,.nil,_=>.nil
 | _,_,@Paired.cons _ _ _ a b la lb r t,nd=>by
   have Ca:=List.nodup_cons.mp nd
   obtain⟨o,ho⟩:=r
   refine .cons ⟨o,?_⟩ ?_
   · show (if a.2=a.2 then _ else _)=_
     rw [if_pos rfl,ho];rfl
   · have ih:=KN t Ca.2
     have aux:∀ {l1:List (Str × Addr)}{l2:List V},(∀ y∈l1,y∈la)→Paired (fun (y:Str × Addr) v=>Fz (O7 h ((la.map (·.2)).zip lb)) y.2 (oZ y.2 v)) l1 l2→Paired (fun (y:Str × Addr) v=>Fz (O7 h (((a::la).map (·.2)).zip (b::lb))) y.2 (oZ y.2 v)) l1 l2:=by
       intro l1 l2 hs hp
       induction hp with
       | nil=>exact .nil
       | @cons y v l1 l2 r t ih2 =>
         refine .cons ?_ (ih2 fun z hz=>hs z (List.mem_cons_of_mem _ hz))
         obtain⟨o,ho⟩:=r
         refine⟨o,?_⟩
         show (if y.2=a.2 then _ else O7 h ((la.map (·.2)).zip lb) y.2)=_
         rw [if_neg fun z=>Ca.1 (by show a.2∈la.map (·.2);rw [← z];exact List.mem_map_of_mem (f:=(·.2)) (hs y List.mem_cons_self))]
         exact ho
     exact aux (fun y hy=>hy) ih
section
variable {X:Cx}
theorem Inv.aaa {pins:List (Addr × Obj)}{σ:St}{H:Hp}{s:Shared} (I:Inv X pins σ H s) {D:jk}{Pt c':Addr}{pos:Pos}{is:List Nat}{ws:List V} (hT:H Pt=some (.lD (dI D.qual pos ++ #[.ref c'])))
   (hfn:∀ y∈D.ys,X.fn y=true∧X.env.kindOf y=some .cell) (nd:D.ys.Nodup) (hN:Paired (fun (y:Str) i=>X.N[i]? = some y) D.ys is) (hw:Paired (fun i w=>σ[i]? = some (some w)) is ws) :
   ∃ H2,O6 H H2 Pt c' D.qual (qZ X.env D.ys) ws∧sI X.prog X.w X.K X.mg X.base X.A X.stack s H2 ∧
     ∀ (Q:VK) (u:Value) (s':Shared),CE X.stack X.prog X.w H2 s (fun v H3=>∀ H4,Rest H H3 H4 Pt c'→Q v H4) u s'→CE X.stack X.prog X.w H s Q u s':=by
 obtain⟨ts,hP,hd⟩:=I.hok _ _ hT
 have hc':H c'=some (.own Pt)∧s.heap.CodeRec (.ref c') D.qual:=by
   rcases hd with ⟨_,q,ln,cl,e⟩ | ⟨q,ln,cl,c2,_,e2,e3,hrec⟩
   · have e:=congrArg Array.toList e;simp [dI] at e
   · rcases e2 with e | e
     · have e:=congrArg Array.toList e;simp [dI] at e
     · have e:=congrArg Array.toList e
       simp [dI] at e
       obtain⟨rfl,_,_,rfl⟩:=e
       exact⟨e3,hrec⟩
 obtain⟨m,hn,hl⟩:=I.loc
 have lk:∀ {y:Str},y∈D.ys→∃ c,X.env.cells.lookup y=some c∧(X.env.cells.lookup y).getD 0=c:=fun {y} hy=>by
   obtain⟨c,e⟩:=I.ok.has y (.inl (hfn y hy).2)
   exact⟨c,e,by rw [e];rfl⟩
 have cells:Paired (fun (y:Str × Addr) (v:V)=>y.1∈D.ys∧X.env.cells.lookup y.1=some y.2∧∃ u,RelV v u∧s.heap.IsCell y.2 (some u)) (qZ X.env D.ys) ws:=by
   have aux:∀ (l:List Str) (is:List Nat) (ws:List V),(∀ y∈l,y∈D.ys)→Paired (fun (y:Str) i=>X.N[i]? = some y) l is→Paired (fun i w=>σ[i]? = some (some w)) is ws →
       Paired (fun (y:Str × Addr) (v:V)=>y.1∈D.ys∧X.env.cells.lookup y.1=some y.2∧∃ u,RelV v u∧s.heap.IsCell y.2 (some u)) (qZ X.env l) ws:=by
     intro l is ws hs a b
     induction a generalizing ws with
     | nil=>cases b;exact .nil
     | cons r t ih =>
       cases b with
       | cons r2 t2 =>
         have hy:=hs _ List.mem_cons_self
         obtain⟨c,e1,e2⟩:=lk hy
         refine .cons ⟨hy,by show _=some ((X.env.cells.lookup _).getD 0);rw [e2];exact e1,?_⟩ (ih _ (fun z hz=>hs z (List.mem_cons_of_mem _ hz)) t2)
         obtain⟨u,ru,l⟩:=hl _ _ _ r r2 (.inr (.inl (hfn _ hy).2))
         rcases l with ⟨z,_⟩ | ⟨_,c2,e3,e4⟩
         · rw [(hfn _ hy).2] at z;cases z
         · rw [e1] at e3;cases e3
           exact⟨u,ru,by show s.heap.IsCell ((X.env.cells.lookup _).getD 0) _;rw [e2];exact e4⟩
   exact aux D.ys is ws (fun _ h=>h) hN hw
 have ndc:((qZ X.env D.ys).map (·.2)).Nodup:=by
   have aux:∀ l:List Str,l.Nodup→(∀ y∈l,y∈D.ys)→((qZ X.env l).map (·.2)).Nodup:=by
     intro l
     induction l with
     | nil=>intro _ _;exact List.nodup_nil
     | cons a l ih =>
       intro nd hs
       have Ca:=List.nodup_cons.mp nd
       refine List.nodup_cons.mpr ⟨fun z=>?_,ih Ca.2 fun y hy=>hs y (List.mem_cons_of_mem _ hy)⟩
       obtain⟨p,hp,e⟩:=List.mem_map.mp z
       obtain⟨y,hy,rfl⟩:=List.mem_map.mp hp
       obtain⟨c,e1,e2⟩:=lk (hs a List.mem_cons_self)
       obtain⟨d,e3,e4⟩:=lk (hs y (List.mem_cons_of_mem _ hy))
       have e:(X.env.cells.lookup y).getD 0=(X.env.cells.lookup a).getD 0:=e
       rw [e2,e4] at e
       subst e
       exact Ca.1 (by rw [I.ok.inj a y d e1 e3];exact hy)
   exact aux D.ys nd fun _ h=>h
 have cellOf:∀ {b:Addr}{v:V},(b,v)∈((qZ X.env D.ys).map (·.2)).zip ws→H b=none∧X.s₀.heap.objs.size≤b∧∃ u,RelV v u∧s.heap.IsCell b (some u):=fun {b v} hm=>by
   have aux:∀ {cs:List (Str × Addr)}{ws:List V},Paired (fun (y:Str × Addr) (v:V)=>y.1∈D.ys∧X.env.cells.lookup y.1=some y.2∧∃ u,RelV v u∧s.heap.IsCell y.2 (some u)) cs ws→(b,v)∈(cs.map (·.2)).zip ws →
       H b=none∧X.s₀.heap.objs.size≤b∧∃ u,RelV v u∧s.heap.IsCell b (some u):=by
     intro cs ws hp
     induction hp with
     | nil=>intro z;cases z
     | cons r t ih =>
       intro z
       rcases List.mem_cons.mp z with z | z
       · cases z
         exact⟨I.jh _ _ r.2.1,I.ok.cab _ _ (hfn _ r.1).1 r.2.1,r.2.2⟩
       · exact ih z
   exact aux cells hm
 generalize hO:KJ s.heap Pt c' D.qual (((qZ X.env D.ys).map (·.2)).zip ws)=O
 have nPc:c'≠Pt:=by rintro rfl;rw [hT] at hc';cases hc'.1
 have oP:O Pt=some (.qp { cls:=.none,data:=.fields ts } (.own Pt)):=by
   rw [← hO];unfold KJ;rw [if_pos rfl,hP];rfl
 obtain⟨oc,hoc⟩:∃ oc,s.heap.get? c'=some oc:=by
   obtain⟨c2,o,vs,t,e,g,_⟩:=hc'.2
   cases e;exact⟨o,g⟩
 have oC:O c'=some (.qp oc (FW c' D.qual)):=by
   rw [← hO];unfold KJ;rw [if_neg nPc,if_pos rfl,hoc];rfl
 have oX:∀ {b},b≠Pt→b≠c'→O b=O7 s.heap (((qZ X.env D.ys).map (·.2)).zip ws) b:=fun {b} h1 h2=>by
   rw [← hO];unfold KJ;rw [if_neg h1,if_neg h2]
 have cls:∀ {b},O b≠none→b=Pt∨b=c'∨(H b=none∧X.s₀.heap.objs.size≤b∧∃ v,s.heap.IsCell b v):=fun {b} h=>by
   by_cases h1:b=Pt
   · exact .inl h1
   by_cases h2:b=c'
   · exact .inr (.inl h2)
   rw [oX h1 h2] at h
   cases q:O7 s.heap (((qZ X.env D.ys).map (·.2)).zip ws) b with
   | none=>exact absurd q h
   | some o =>
     obtain⟨v,ob,hm,_⟩:=sZ q
     obtain⟨g1,g2,u,_,g3⟩:=cellOf hm
     exact .inr (.inr ⟨g1,g2,_,g3⟩)
 have KQ:∀ {b:Addr}{u:HO},H b=some u→O b≠none→b=Pt∨b=c':=fun {b u} e h=>by
   rcases cls h with h | h | ⟨h,_⟩
   · exact .inl h
   · exact .inr h
   · rw [e] at h;cases h
 have f0:∀ b o,O b=some o→∃ ob u,o=.qp ob u∧s.heap.get? b=some ob∧∀ H',cu X.prog X.w H' s.heap b u:=fun b o e=>by
   by_cases h1:b=Pt
   · subst h1;rw [oP] at e;cases e
     exact⟨_,_,rfl,hP,fun _=>⟨_,hP⟩⟩
   by_cases h2:b=c'
   · subst h2;rw [oC] at e;cases e
     exact⟨_,_,rfl,hoc,fun _=>O1 hc'.2⟩
   rw [oX h1 h2] at e
   obtain⟨v,ob,hm,g,rfl⟩:=sZ e
   obtain⟨_,_,u,ru,hcell⟩:=cellOf hm
   exact⟨_,_,rfl,g,fun _=>FZ ru hcell⟩
 have f1:∀ b y,O b≠none→H b=some (.own y)→O y≠none:=fun b y h1 h2=>by
   rcases KQ h2 h1 with rfl | rfl
   · rw [hT] at h2;cases h2
   · rw [hc'.1] at h2;cases h2;rw [oP];simp
 have f2:∀ b o,O b≠none→H b=some o→∀ (H':Hp) (h':Heap),(∀ d ob,O d≠none→s.heap.get? d=some ob→h'.get? d=some ob)→(∀ d,O d≠none→H' d=H d)→cu X.prog X.w H' h' b o:=fun b o h1 h2 H' h' k1 k2=>by
   have cP:O Pt≠none:=by rw [oP];simp
   have cC:O c'≠none:=by rw [oC];simp
   rcases KQ h2 h1 with rfl | rfl
   · rw [hT] at h2;cases h2
     refine⟨ts,k1 _ _ cP hP,?_⟩
     rcases hd with ⟨_,q,ln,cl,e⟩ | ⟨q,ln,cl,c2,z1,z2,z3,z4⟩
     · have e:=congrArg Array.toList e;simp [dI] at e
     · rcases z2 with e | e
       · have e:=congrArg Array.toList e;simp [dI] at e
       · have e':=congrArg Array.toList e
         simp [dI] at e'
         obtain⟨rfl,_,_,rfl⟩:=e'
         obtain⟨c3,o3,vs,t,e3,e4,e5⟩:=z4
         cases e3
         exact .inr ⟨_,ln,cl,c',z1,.inr e,by rw [k2 _ cC];exact z3,c',o3,vs,t,rfl,k1 _ _ cC e4,e5⟩
   · rw [hc'.1] at h2;cases h2
     exact⟨_,k1 _ _ cC hoc⟩
 have f3:∀ b xs,O b≠none→H b≠some (.tup xs):=fun b xs h1 h2=>by
   rcases KQ h2 h1 with rfl | rfl
   · rw [hT] at h2;cases h2
   · rw [hc'.1] at h2;cases h2
 have f4:∀ b o,X.base.get? b=some o→O b=none:=fun b o e=>by
   cases z:O b with
   | none=>rfl
   | some o' =>
     have hb:=(I.bs b o e).2
     rcases cls (b:=b) (by rw [z];simp) with rfl | rfl | ⟨_,g,_⟩
     · rw [hT] at hb;cases hb
     · rw [hc'.1] at hb;cases hb
     · exact absurd (Nat.lt_of_lt_of_le (Heap.lt_size e) (Nat.le_trans I.ok.Lk g)) (Nat.lt_irrefl _)
 have f5:∀ b∈frs X.stack,O b=none:=fun b hb=>by
   cases z:O b with
   | none=>rfl
   | some o' =>
     have hb':=I.CN b hb
     rcases cls (b:=b) (by rw [z];simp) with rfl | rfl | ⟨_,g,v,o,g2,g3⟩
     · rw [hT] at hb';cases hb'
     · rw [hc'.1] at hb';cases hb'
     · rcases I.ok.Zk with e | ⟨e,e2⟩
       · rw [e] at hb
         obtain⟨o2,e3,_⟩:=(I.ok.oO.mem hb).2
         exact absurd (Nat.lt_of_lt_of_le (Heap.lt_size e3) g) (Nat.lt_irrefl _)
       · rw [e] at hb
         have hb:b∈(X.env::X.outer).filterMap (·.frame):=hb
         rw [List.filterMap_cons_some e2] at hb
         rcases List.mem_cons.mp hb with rfl | hb
         · obtain⟨o3,es,ep,e4,e5,_⟩:=hn
           rw [g2] at e4;cases e4
           rw [g3] at e5;cases e5
         · obtain⟨o2,e3,_⟩:=(I.ok.oO.mem hb).2
           exact absurd (Nat.lt_of_lt_of_le (Heap.lt_size e3) g) (Nat.lt_irrefl _)
 obtain⟨E0,back⟩:=I.lend f0 f1 f2 f3 f4 f5
 refine⟨ov O H,⟨⟨oc,wV oC⟩,ndc,?_,fun b o e h1 h2=>?_⟩,E0,fun Q u s' h=>back Q u s' ?_⟩
 · have hh:=KN (h:=s.heap) (Paired.Q9 cells fun y v q=>by
     obtain⟨_,_,u,_,o,g,_⟩:=q
     exact⟨o,g⟩) ndc
   have aux:∀ {l1:List (Str × Addr)}{l2:List V},Paired (fun (y:Str × Addr) (v:V)=>y.1∈D.ys∧X.env.cells.lookup y.1=some y.2∧∃ u,RelV v u∧s.heap.IsCell y.2 (some u)) l1 l2 →
       Paired (fun (y:Str × Addr) v=>Fz (O7 s.heap (((qZ X.env D.ys).map (·.2)).zip ws)) y.2 (oZ y.2 v)) l1 l2→Paired (fun (y:Str × Addr) v=>Fz (ov O H) y.2 (oZ y.2 v)) l1 l2:=by
     intro l1 l2 a b
     induction a with
     | nil=>exact .nil
     | cons r t ih =>
       cases b with
       | cons r2 t2 =>
         refine .cons ?_ (ih t2)
         obtain⟨o,ho⟩:=r2
         have hf:=I.jh _ _ r.2.1
         refine⟨o,wV ?_⟩
         rw [oX (by intro z;rw [z,hT] at hf;cases hf) (by intro z;rw [z,hc'.1] at hf;cases hf)]
         exact ho
   exact aux cells hh
 · cases q:O b with
   | none=>rw [xN q];exact e
   | some o' =>
     rcases KQ e (by rw [q];simp) with z | z
     · exact absurd z h1
     · exact absurd z h2
 · obtain⟨v,H3,os,bare,un,hok,r,q⟩:=h
   refine⟨v,H3,os,bare,un,hok,r,fun hs=>q _ ⟨fun b o e h=>?_,fun b o e h=>?_⟩⟩
   · cases z:O b with
     | some o'=>rw [jP (by rw [z];simp)];exact e
     | none =>
       rw [xK z]
       rcases h with rfl | rfl | h
       · rw [oP] at z;cases z
       · rw [oC] at z;cases z
       · exact h
   · cases z:O b with
     | none=>rw [xK z];exact e
     | some o' =>
       obtain⟨ob,u,rfl⟩:∃ ob u,o'=.qp ob u:=by
         by_cases h1:b=Pt
         · subst h1;rw [oP] at z;cases z;exact⟨_,_,rfl⟩
         by_cases h2:b=c'
         · subst h2;rw [oC] at z;cases z;exact⟨_,_,rfl⟩
         rw [oX h1 h2] at z
         obtain⟨v,ob,_,_,rfl⟩:=sZ z
         exact⟨_,_,rfl⟩
       have g:=hs b _ z
       rw [e] at g;cases g
       exact absurd rfl (h _ _)
end
section
variable {X:Cx}{k:Nat}{m:Str}{pos apos O8:Pos}{e o:Expr}{es:List Expr}{ta:TE}{t:TA}
def VD (X:Cx) (k:Nat) (m:Str) (D:jk) (Pt:Addr) (O8:Pos) (is:List Nat) (ta:TE) (t:TA):TE:=fun σ H Q=>ta σ H fun x H1=>∃ (a C dx:Addr) (fs:List (Str × V)) (M:dj X.prog X.w X.K X.mg X.base b8 k C m),x=.ref a∧H1 a=some (.ins C dx fs)∧fs.lookup m=none ∧
 t σ H1 fun vs H2=>∃ c' ws,H2 Pt=some (.lD (dI D.qual O8 ++ #[.ref c']))∧Paired (fun i w=>σ[i]? = some (some w)) is ws ∧
   ∀ H3,O6 H2 H3 Pt c' D.qual (qZ X.env D.ys) ws→M.sp (x::(vs++M.qX)) H3 (fun y H4=>∀ H5,Rest H2 H4 H5 Pt c'→Q y H5) E0
theorem Gd {D:jk}{Pt:Addr}{is:List Nat}{pl:Sem Bool} (hr:dO k X.A) (he:PE X o ta) (ha:PA X (e::es) t)
   (hfn:∀ y∈D.ys,X.fn y=true∧X.env.kindOf y=some .cell) (nd:D.ys.Nodup) (hN:Paired (fun (y:Str) i=>X.N[i]? = some y) D.ys is)
   (hst:starEach (e::es) X.env=(false,eval e X.env)::starEach es X.env:=by rfl) (hpl:(backTo pos (starEach es X.env)).any (·.1)=false:=by rfl)
   (ht:eval (.Call (.Attribute o m apos) (e::es) [] pos) X.env=(do
     let ov ← eval o X.env
     standAt apos.atName
     let (f,first) ← holding [ov] (getMethod ov m pl)
     callWith pos f first (backTo pos (starEach (e::es) X.env)) (backToKw pos (keywordEach [] X.env))):=by rfl) :
   PE X (.Call (.Attribute o m apos) (e::es) [] pos) (VD X k m D Pt O8 is ta t):=by
 intro pins s σ H Q I h
 refine PySem.W.methodCall_KW (pl:=pl) (dm (he pins s σ H _ I h) fun u s1 zq=>?_) ht
 obtain⟨x,H1,I1,rx,a,C,dx,fs,M,ex,ea,l,q⟩:=zq
 subst ex
 obtain rfl:u=Value.ref a:=rx
 refine qW I1 ea M.c M.hm l ?_
 refine PySem.W.callWith_K (first:=[.ref a]) (h₀:=X.base) I.ok.mod.Tv M.hm.kp (dm (ha pos pins s1 σ H1 _ I1 q) fun us s2 zq=>?_) hst hpl
 obtain⟨vs,H2,I2,r,c',ws,hT,hw,q2⟩:=zq
 refine⟨I2.wY,?_⟩
 obtain⟨H3,L,e0,back⟩:=I2.aaa hT hfn nd hN hw
 have h3:=q2 H3 L
 have r2:Vals ((.ref a::vs)++M.qX) ((.ref a::us)++M.ds):=Vals.append (.cons rfl r) M.hd
 have hl:((.ref a::us)++M.ds).length=M.ps.length:=by rw [← r2.length];exact M.F.len _ _ _ _ h3
 refine wpAny_call (codeAny_mono (M.F.run X.A X.stack s2 H3 ⟨.ref a::us,[]⟩ _ _ _ _ hr e0 (M.hb s2 (.ref a::us) I2.wY hl) r2 h3) fun r s' hq=>?_)
 cases r with
 | error e=>exact False.elim hq
 | ok fl =>
   cases fl with
   | ret u=>exact I2.after (back Q u s' hq)
   | next=>exact False.elim hq
   | brk=>exact False.elim hq
   | cont=>exact False.elim hq
end
theorem bw.weak {P:Program}{w:World}{K:PySem.W.Frag}{mg:Str→Option Value}{base:Heap}{CX:Al}{k:Nat}{f:Addr}{fd:FuncData}{ps:List Str}{sp ZL:Sp}{Pt:Addr}{q:Str}{pos:Pos} (F:bw P w K mg base CX k f fd ps sp)
   (h:∀ vs H Q E,ZL vs H Q E→H Pt=some (.lD (dI q pos))∧sp vs H (fun v H'=>(∃ c',H' Pt=some (.lD (dI q pos ++ #[.ref c']))∧Q v (upd H' Pt (.lD (dI q pos))))∨(H' Pt=some (.lD (dI q pos))∧Q v H')) E):bw P w K mg base CX k f fd ps ZL:=by
 refine⟨fun vs H Q E z=>F.len _ _ _ _ (h vs H Q E z).2,fun A outer s H args us vs Q E hr e0 hb hv hs=>?_⟩
 obtain⟨hT,h2⟩:=h vs H Q E hs
 refine codeAny_mono (F.run A outer s H args us vs _ E hr e0 hb hv h2) fun r s' z=>?_
 cases r with
 | error e=>exact z
 | ok fl =>
   cases fl with
   | next=>exact z
   | brk=>exact z
   | cont=>exact z
   | ret u =>
     obtain⟨v,H',os,bare,un,hok,rv,z⟩:=z
     rcases z with ⟨c',hT',z⟩ | ⟨_,z⟩
     · have ne:∀ {b:Addr}{o:HO},H' b=some o→(∀ ps,o≠.lD ps)→b≠Pt:=fun {b o} e n=>by rintro rfl;rw [hT'] at e;cases e;exact n _ rfl
       have neH:∀ {b:Addr}{o:HO},H b=some o→(∀ ps,o≠.lD ps)→b≠Pt:=fun {b o} e n=>by rintro rfl;rw [hT] at e;cases e;exact n _ rfl
       refine⟨v,upd H' Pt (.lD (dI q pos)),os,bare,⟨un.keep,un.slot,fun b o e n hx=>?_,un.there,fun b xs e=>?_,fun b o y e=>?_,fun b qs e=>?_⟩,fun b o e=>?_,rv,z⟩
       · rw [zI (by rintro rfl;rw [hT] at n;cases n)];exact un.free b o e n hx
       · rw [zI (neH e fun _ z=>by cases z)];exact un.tups b xs e
       · rw [zI (neH e fun _ z=>by cases z)];exact un.lZ b o y e
       · by_cases hb:b=Pt
         · subst hb
           rw [hT] at e;cases e
           exact⟨#[],by rw [zB];simp⟩
         · rw [zI hb];exact un.mU b qs e
       · by_cases hb:b=Pt
         · subst hb
           rw [zB] at e;cases e
           obtain⟨ts,g,d⟩:=hok _ _ hT'
           refine⟨ts,g,?_⟩
           rcases d with ⟨_,q',ln,cl,e⟩ | ⟨q',ln,cl,c2,e1,e2,e3,e4⟩
           · have e:=congrArg Array.toList e;simp [dI] at e
           · rcases e2 with e | e
             · have e:=congrArg Array.toList e;simp [dI] at e
             · have e:=congrArg Array.toList e
               simp [dI] at e
               obtain⟨rfl,rfl,rfl,rfl⟩:=e
               exact .inr ⟨_,_,_,_,e1,.inl rfl,by rw [zI (ne e3 fun _ z=>by cases z)];exact e3,e4⟩
         · rw [zI hb] at e
           refine (hok b o e).stay (fun _ _ _ z=>z) (fun d z=>?_) fun d xs z=>?_
           · rw [zI (ne z fun _ y=>by cases y)];exact z
           · rw [zI (ne z fun _ y=>by cases y)];exact z
     · exact⟨v,H',os,bare,un,hok,rv,z⟩
def O9 (Pt:Addr) (ps:Array Value) (H:Hp):Prop:=H Pt=some (.lD ps)∧∀ b,b≠Pt→H b=none∨∃ o xs,H b=some (.qp o (.lst xs))
theorem Mr {P:Program}{w:World}{K:PySem.W.Frag}{mg mb:Str→Option Value}{CX:Al}{k:Nat}{fa a:Addr}{fd:FuncData}{x:Str}{sp:Sp}{s₁:Shared}{vs:List Value}{ns:List Int}{c Pt:Addr}{ps:Array Value}
   (hps:∃ q ln cl,ps=#[.str q 0,ln,cl]) (KX:K.In s₁.heap) (hns:s₁.heap.Ns mainGlobals mg) (hb:s₁.heap.Ns builtinsNs mb) (hbb:∀ x:Str,x≠"__name__"→mb x=bootBuiltins x) (hlim:s₁.heap.NoLimit) (hg:s₁.gens=#[]) (hB:BMain mg s₁.heap)
   (hC:CodeHd s₁.heap c Pt) (hP:s₁.heap.get? Pt=some (tabObj #[])) (hKP:K.lookup Pt=none)
   (ha:s₁.heap.get? a=some { cls:=.type "list",data:=.seq vs.toArray }) (hi:IntsAre vs ns) (hl:ns.length≤sizeLine) (hr:dO k callerA)
   (F:∀ base:Heap,K.In base→base.Ns mainGlobals mg→BMain mg base→bw P w K mg base CX k fa fd [x] sp) (hbind:∀ (s:Shared) (u:Value),BindsTo s fd ⟨[u],[]⟩ [(x,u)])
   (hsp:∀ H:Hp,O9 Pt ps H→b7 K H a (ns.map V.int)→sp [.ref a] H (fun v _=>v=.bl true) fun _ _ _=>False)
   (hCX:∀ H e s',CX [] H s₁ (fun _ _ _=>False) e s'→False) :
   codeAny (model P w) callerA (.call (.ref fa) ⟨[.ref a],[]⟩) (fun r s'=>r=.ok (.ret (.bool true))∧OldK s₁.heap s'.heap∧s'.os=s₁.os∧AllBare s'.gens) s₁:=by
 have rv:=BR hi
 have lenV:=hi.length
 have naP:a≠Pt:=by rintro rfl;rw [ha] at hP;cases hP
 have core:∀ H:Hp,O9 Pt ps H→b7 K H a (ns.map V.int)→pZ P w H s₁.heap→(∀ b,H b≠none→b=a∨b=Pt)→(H a≠none→K.lookup a=none) →
     codeAny (model P w) callerA (.call (.ref fa) ⟨[.ref a],[]⟩) (fun r s'=>r=.ok (.ret (.bool true))∧OldK s₁.heap s'.heap∧s'.os=s₁.os∧AllBare s'.gens) s₁:=by
   intro H hO hS hok hA hK
   have Dm:∀ {b:Addr}{o:Obj},s₁.heap.get? b=some o→H b=none→(Am s₁.heap H).get? b=some o:=fun e n=>Ni e n
   have noB:∀ {b:Addr}{o:Obj},s₁.heap.get? b=some o→(∀ its n,o.data≠.seq its n)→(∀ vs,o.data≠.fields vs)→H b=none:=fun {b o} e d1 d2=>by
     cases q:H b with
     | none=>rfl
     | some u =>
       rcases hA b (by rw [q];simp) with e' | e'
       · subst e';rw [ha] at e;cases e;exact absurd rfl (d1 _ _)
       · subst e';rw [hP] at e;cases e;exact absurd rfl (d2 _)
   have Rp:∀ {b:Addr}{o:Obj}{es:Array DictEntry}{ep:Nat},s₁.heap.get? b=some o→o.data=.dict es ep→H b=none:=fun {b o es ep} e d =>
     noB e (fun _ _ z=>by rw [d] at z;cases z) fun _ z=>by rw [d] at z;cases z
   have nsK:∀ {b:Addr}{m:Str→Option Value},s₁.heap.Ns b m→(Am s₁.heap H).Ns b m:=fun {b m} ⟨o,es,ep,e,d,r⟩=>⟨o,es,ep,Dm e (Rp e d),d,r⟩
   have hKb:K.In (Am s₁.heap H):=fun b o e=>Dm (KX b o e) (by
     cases q:H b with
     | none=>rfl
     | some u =>
       rcases hA b (by rw [q];simp) with e' | e'
       · subst e'
         rw [hK (by rw [q];simp)] at e;cases e
       · subst e'
         rw [hKP] at e;cases e)
   have hBb:BMain mg (Am s₁.heap H):=by
     obtain⟨bm,ob,a1,a2,a3,a4,a5,a6⟩:=hB
     exact⟨bm,ob,a1,a2,Dm a3 (noB a3 (fun _ _ z=>by rw [a6] at z;cases z) fun _ z=>by rw [a6] at z;cases z),a4,a5,a6⟩
   have hM:Mod K mg (Am s₁.heap H):=⟨hKb,nsK hns,⟨mb,nsK hb,hbb⟩,let ⟨mc,h1,h2⟩:=hlim; ⟨mc,nsK h1,h2⟩⟩
   have e0:sI P w K mg (Am s₁.heap H) callerA [] s₁ H:=⟨rfl,hM,fun b o e=>Ra e,Nat.le_of_eq (Lj _ _),trivial,fun b hb=>absurd (show b∈([]:List Addr) from hb) (by simp),hok,.of_eq hg⟩
   refine codeAny_mono ((F _ hKb (nsK hns) hBb).run callerA [] s₁ H ⟨[.ref a],[]⟩ [.ref a] [.ref a] _ _ hr e0 (hbind s₁ (.ref a)) (.cons rfl .nil) (hsp H hO hS)) fun r s' h=>?_
   cases r with
   | error e=>exact (hCX H e s' h).elim
   | ok fl =>
     cases fl with
     | next=>exact False.elim h
     | brk=>exact False.elim h
     | cont=>exact False.elim h
     | ret u =>
       obtain⟨v,H',os,bare,un,hok',r',q⟩:=h
       have q':v=.bl true:=q
       subst q'
       obtain rfl:u=Value.bool true:=r'
       obtain⟨more,hmore⟩:=un.mU Pt _ hO.1
       obtain⟨ts',hP',_⟩:=hok' Pt _ hmore
       have keep:∀ b o,b≠Pt→s₁.heap.get? b=some o→s'.heap.get? b=some o:=fun b o hb e=>by
         cases q:H b with
         | none=>exact un.keep b o e q (by intro z;exact absurd (show b∈([]:List Addr) from z) (by simp)) (by simp)
         | some u =>
           rcases hO.2 b hb with z | ⟨ob,xs,z⟩
           · rw [q] at z;cases z
           · have z2:=un.lZ b ob _ z
             obtain⟨e1,_⟩:=hok b _ z
             obtain⟨e2,_⟩:=hok' b _ z2
             rw [e] at e1;cases e1
             exact e2
       refine⟨rfl,⟨fun b o e=>?_,fun b o e=>?_⟩,os,bare⟩
       · by_cases hb:b=Pt
         · subst hb
           rw [hP] at e;cases e
           exact .inr (.inl ⟨(hC.tab hP).isCodeTable,rfl,#[],ts',rfl,by rw [Array.empty_append];exact hP'⟩)
         · exact .inl (keep b o hb e)
       · by_cases hb:b=Pt
         · subst hb;exact⟨_,hP'⟩
         · exact⟨o,keep b o hb e⟩
 cases hk:K.lookup a with
 | some o =>
   have e:=KX a o hk
   rw [ha] at e
   cases e
   refine core (fun b=>if b=Pt then some (.lD ps) else none) ⟨if_pos rfl,fun b hb=>.inl (if_neg hb)⟩ (.inr ⟨_,vs.toArray,_,hk,rfl,rfl,rfl,by rw [List.size_toArray,lenV];exact hl,by simpa using rv⟩) (fun b u z=>?_) (fun b z=>?_) fun z=>absurd (if_neg naP) z
   · by_cases hb:b=Pt
     · have z':=(if_pos hb).symm.trans z
       cases z'
       subst hb
       exact⟨#[],hP,.inl ⟨rfl,hps⟩⟩
     · have z':=(if_neg hb).symm.trans z
       cases z'
   · by_cases hb:b=Pt
     · exact .inr hb
     · exact absurd (if_neg hb) z
 | none =>
   refine core (fun b=>if b=Pt then some (.lD ps) else if b=a then some (.qp { cls:=.type "list",data:=.seq vs.toArray } (.lst (ns.map V.int))) else none) ⟨if_pos rfl,fun b hn=>?_⟩ (.inl (.inr ⟨{ cls:=.type "list",data:=.seq vs.toArray },(if_neg naP).trans (if_pos rfl)⟩)) (fun b u z=>?_) (fun b z=>?_) fun _=>hk
   · by_cases hb:b=a
     · exact .inr ⟨_,_,(if_neg hn).trans (if_pos hb)⟩
     · exact .inl ((if_neg hn).trans (if_neg hb))
   · by_cases hn:b=Pt
     · have z':=(if_pos hn).symm.trans z
       cases z'
       subst hn
       exact⟨#[],hP,.inl ⟨rfl,hps⟩⟩
     · by_cases hb:b=a
       · have z':=((if_neg hn).trans (if_pos hb)).symm.trans z
         cases z'
         subst hb
         exact⟨ha,by rw [List.length_map];exact hl,vs,_,rv,ha⟩
       · have z':=((if_neg hn).trans (if_neg hb)).symm.trans z
         cases z'
   · by_cases hn:b=Pt
     · exact .inr hn
     · by_cases hb:b=a
       · exact .inl hb
       · exact absurd ((if_neg hn).trans (if_neg hb)) z
theorem Pa {l:PySem.W.OpenLaw}{n k:Nat}{q:Program}{loose:List Str}{XP:(Str→Option Value)→Heap→Prop}{YP:World→Heap→Prop}{d:DefRec}{K:Params→PySem.W.Frag}{CX:World→Al}{sp:Addr→World→Sp}{x:Str}{ps:Array Value}
   (hps:∃ q ln cl,ps=#[.str q 0,ln,cl])
   (hn:l.most=some n) (hn2:n≤sizeLine) (hdf:d.params.defaults=[]) (hr:dO k callerA)
   (hY:∀ (w:World) (h:Heap),YP w h→(K w.params).In h)
   (F:∀ (w:World) (mg:Str→Option Value) (fa:Addr) (h:Heap),YP w h→(K w.params).In h→h.Ns mainGlobals mg→mg d.name=some (.ref fa) →
     ∃ (c Pt:Addr) (fd:FuncData),PySem.W.codeHdIn (K w.params) c Pt=true∧h.get? Pt=some (tabObj #[])∧(K w.params).lookup Pt=none∧(∀ (s:Shared) (u:Value),BindsTo s fd ⟨[u],[]⟩ [(x,u)]) ∧
       (∀ base:Heap,(K w.params).In base→base.Ns mainGlobals mg→BMain mg base→bw l.prog w (K w.params) mg base (CX w) k fa fd [x] (sp Pt w)))
   (hsp:∀ (Pt:Addr) (w:World) (H:Hp) (a:Addr) (ns:List Int),ns.length≤n→(∀ n∈ns,Builtin.Int.intBits n≤1048576)→O9 Pt ps H→b7 (K w.params) H a (ns.map V.int)→sp Pt w [.ref a] H (fun v _=>v=.bl true) fun _ _ _=>False)
   (hCX:∀ (w:World) (H:Hp) (s:Shared) (e:Value) (s':Shared),CX w [] H s (fun _ _ _=>False) e s'→False) :
   PySem.W.WalkO q loose XP YP l.row.toRowW d [] (fun f vs=>PySem.call f vs):=by
 refine Att.Dg hn hdf fun w s₀ s₁ mg mb fa o pm cd doc a vs ns G Y ho hd hcd hmg hobj hints hlen aab hg=>?_
 have KX:=hY w _ Y
 obtain⟨c,Pt,fd,h1,h2,h3,hb,hF⟩:=F w mg fa _ Y KX G.T.g hmg
 exact Mr hps KX G.T.g G.T.b G.T.builtins G.T.nolimit hg G.T.bmain (PySem.W.codeHd_of_K KX h1) h2 h3 hobj hints (Nat.le_trans hlen hn2) hr hF hb (fun H hO hS=>hsp Pt w H a ns hlen aab hO hS) fun H e s'=>hCX w H s₁ e s'
section
variable {P:Program}{w:World}{K:PySem.W.Frag}{mg:Str→Option Value}{base:Heap}
theorem fX.okC {x qual:Str}{st:Stmt}{f:Addr}{fd:FuncData}{N ps:List Str}{k:Nat}{sp:Sp} (F:fX K x qual st f fd) (S:az N ps (aa st)) (len:∀ vs H Q E,sp vs H Q E→vs.length=ps.length)
   (hbody:∀ (cdv:Value) (A:Around) (outer:List Env) (s:Shared) (H:Hp) (vs:List V) (Q:VK) (E:XK),fd.code=cdv→dO k (A.deeper (envOfC qual (aa st) s.heap.objs.size f cdv))→sp vs H Q E →
     ∃ t,nU (Fe b8 P w K mg base N qual (aa st) f cdv A outer s H E).Aj (aj st) t∧t { nx:=fun _ H'=>Q .non H',rt:=Q } (start N vs) H):bw P w K mg base b8 (k+1) f fd ps sp:=by
 obtain⟨oc,od,kV,doc,pm,an,cdv,ct,osl,rfl,lk,hcd⟩:=F.ex
 refine N6 lk hcd S len fun A outer s H vs Q E hr hsp=>?_
 obtain⟨t,h,q⟩:=hbody cdv A outer s H vs Q E rfl hr hsp
 exact⟨t,h.Aj,q⟩
end
end L2
namespace L2
open PySem PySem.Spec PyProof.Rows PySem.Calls
section
variable {X:Cx}
theorem Pb (hc:X.calm=true):cL X (.builtin "any") (fun xs H Q=>∃ (p:Addr) (bs:List Bool),xs=[.ref p]∧b7 X.K H p (bs.map V.bl)∧Q (.bl (bs.any id)) H):=by
 intro pins s σ H xs us Q I r h
 obtain⟨p,bs,rfl,hq,q⟩:=h
 obtain⟨u,rfl,ru⟩:=vals1 r
 cases ru
 obtain⟨its,rv,pl,hz⟩:=I.list hq
 have hlt:p<s.heap.objs.size:=by obtain⟨o,n,e,_⟩:=pl;exact Heap.lt_size e
 refine call_any_walk (wpAny_pyIter_list pl.isList ?_)
 refine⟨_,_,_,_,_,_,fun i=>bs.getD i false,rfl,Walks.list (show X.A.in1.handled=none from I.ok.hd hc) s.heap.objs.size p (Nat.ne_of_lt hlt) its.toArray,⟨⟨_,Heap.get?_push_size _ rfl,rfl,rfl⟩,pl.isList.push _⟩,fun i v s1 Q1 E1 hP hQ=>?_,fun h' tk k=>?_⟩
 · have hP':its[i]? = some v:=by simpa using hP
   obtain⟨hi,_⟩:=List.getElem?_eq_some_iff.mp hP'
   have hl:=rv.length
   rw [List.length_map] at hl
   have hb:(bs.map V.bl)[i]? = some (V.bl (bs.getD i false)):=by
     rw [List.getElem?_map,List.getElem?_eq_getElem (by omega)]
     simp [List.getD,List.getElem?_eq_getElem (show i<bs.length by omega)]
   obtain⟨u,hu,ru⟩:=rv.get hb
   rw [hP'] at hu
   cases hu
   cases (show v=Value.bool _ from ru)
   exact wpAny_truthy_bool hQ
 · have e:(List.range its.toArray.size).any (fun i=>bs.getD i false)=bs.any id:=by
     have hl:=rv.length
     rw [List.length_map] at hl
     rw [List.size_toArray,← hl]
     have z:bs=(List.range bs.length).map fun i=>bs.getD i false:=by
       apply List.ext_getElem?
       intro i
       rw [List.getElem?_map]
       by_cases hi:i<bs.length
       · simp [List.getElem?_eq_getElem,hi,List.getD]
       · rw [List.getElem?_eq_none (Nat.not_lt.mp hi),List.getElem?_eq_none (by rw [List.length_range];exact Nat.not_lt.mp hi)];rfl
     conv=>rhs;rw [z]
     rw [List.any_map];rfl
   rw [e]
   refine⟨.bl (bs.any id),H,?_,rfl,q⟩
   have I0:Inv X pins σ H { s with heap:=s.heap.push { cls:=.type "list_iterator",data:=.fields #[.ref p,.int 0 0] } }:=I.kept (t':=s.toks) fun b o e=>Heap.get?_push_of_some _ e
   have fo:=I.Ii (H':=H) (b:=s.heap.objs.size) (Nat.le_refl _) I.fresh
   obtain⟨f0,f1,f2,f3,f4,f5⟩:=fo
   exact I0.turned (t':=tk) (it:=s.heap.objs.size) (fun b o hb e=>k b o (by simpa using hb) e) f0 f1 f3 f4 f5
def VF (ta:TE):TE:=fun σ H Q=>ta σ H fun x H1=>(∃ c,x=.bl c∧Q (.bl (!c)) H1)∨(x=.non∧Q (.bl true) H1)
theorem RZ {a:Expr}{ta:TE}{pos:Pos} (ha:PE X a ta):PE X (.UnaryOp .Not a pos) (VF ta):=by
 intro pins s σ H Q I h
 refine UnaryOp_ (dm (ha pins s σ H _ I h) fun v s1 zq=>?_)
 obtain⟨x,H1,I1,r1,q1⟩:=zq
 rcases q1 with ⟨c,rfl,q1⟩ | ⟨rfl,q1⟩
 · cases r1
   exact not_of (wpAny_truthy_bool ⟨.bl (!c),H1,I1,rfl,q1⟩)
 · cases r1
   exact not_of (truthy_none ⟨.bl true,H1,I1,rfl,q1⟩)
end
end L2
namespace L2
open PySem PySem.Spec PyProof.Rows PySem.Calls
section
variable {X:Cx}
end
end L2
namespace L2
open PySem PySem.Spec
theorem nZ {X:Cx}{s:Stmt}:PS X s (fun _ _ _=>False):=fun _ _ _ _ _ _ h=>h.elim
end L2
namespace L2
open PySem PySem.Spec PyProof.Rows PySem.Calls
section
variable {X:Cx}
theorem Cd {xs:List V}{us:List Value} (r:Vals xs us):∀ n,Vals (List.replicate n xs).flatten (List.replicate n us).flatten
 | 0=>.nil
 | n+1=>by rw [List.replicate_succ,List.replicate_succ,List.flatten_cons,List.flatten_cons];exact r.append (Cd r n)
theorem R4:jb X (binaryOp .Mult) (fun x y H Q=>∃ l xs n,x=.ref l∧y=.int n∧H l=some (.lst xs)∧0≤n∧n≤1000∧xs.length*n.toNat≤1000∧∀ p,H p=none→Q (.ref p) (upd H p (.lst (List.replicate n.toNat xs).flatten))):=by
 intro pins s σ H x y v u Q I rx ry h
 obtain⟨l,xs,n,rfl,rfl,hH,h0,h1,hz,q⟩:=h
 cases rx
 obtain⟨t,rfl⟩:=ry
 obtain⟨its,r,pl,hz'⟩:=I.list (b7.of hH)
 have hlen:=r.length
 have hl:s.heap.IsList l its.toArray:=pl.isList
 obtain⟨⟨cls,d,data,sl⟩,ho,hcl,k,hd⟩:=id hl
 simp only at hcl hd
 subst hcl hd
 have hsz2:its.length*n.toNat≤1000:=by rw [← hlen];exact hz
 have hsz':its.toArray.size*n.toNat≤1000:=by rw [List.size_toArray,← hlen];exact hz
 refine wpAny_binaryOp_repeat_ref (T:="list") (U:="int") (by decide) ⟨_,ho,rfl⟩ (fun s'=>typeIs_int s' n t) noFill_list_mul F.fills_int_mul F.slot_int_rmul repeat_list F.slot_int_index.lookup
   (call_meets F.slot_int_rmul (typeIs_int s n t) F.entry_int_rmul (F.args_int_rmul_2 _ _) (lm_int_rmul_list_any n t l its.toArray k d sl)
     ⟨ho,rfl,⟨_,ho,rfl⟩,call_meets F.slot_list_mul ⟨_,ho,rfl⟩ F.entry_list_mul (F.args_list_mul_2 _ _)
       (lm_list_mul_any l its.toArray k d sl n t (by simp [Builtin.List.listFitsIndex];omega) (by omega) (by simp [Builtin.List.listTooLong,sizeLine];omega))
       ⟨ho,?_⟩⟩)
 rw [listMul_foldl_if]
 refine⟨.ref _,_,I.laid (t':=s.toks) (o:=.lst (List.replicate n.toNat xs).flatten) (fun b ob q=>Heap.get?_push_of_some _ q) (Nat.le_refl _) ?_,rfl,q _ (I.hok.fresh (Nat.le_refl _))⟩
 refine⟨?_,_,0,Cd r n.toNat,Heap.get?_push_size _ rfl⟩
 rw [List.length_flatten,List.map_replicate,List.sum_replicate_nat,sizeLine_eq,Nat.mul_comm];omega
end
end L2
namespace L2
open PySem PySem.Spec PyProof.Rows PySem.Calls
section
variable {X:Cx}
theorem Pg {e:Expr}:PE X e (fun _ _ _=>False):=fun _ _ _ _ _ _ h=>h.elim
end
end L2
namespace L2
open PySem PySem.Spec PyProof.Rows PySem.Calls
section
variable {X:Cx}{scope:Scope}{x y:Str}{M:List Str}{tg elt iter:Expr}{ifs:List Expr}{pos p1 p2 p3:Pos}{kk:Nat}{te:TE}{wi:TI}{tc:TT}{g:TG}
theorem Ph {i:Nat}{z:Str}{spos py:Pos} (hN:X.N.Nodup) (hy:X.N[i]? = some z) (hl:Loc X.env.scope z) (K:lF X scope x y M) (hc:X.calm=true) (hi:PI X tg iter wi) (hg:∀ (C:Addr) (s₂:Shared) (H₂:Hp) (fp:List Addr),PG (cB X scope C x y M s₂ H₂ fp) tg g) (ht:∀ (C:Addr) (s₂:Shared) (H₂:Hp) (fp:List Addr),Ml (cB X scope C x y M s₂ H₂ fp) ifs tc) (he:∀ (C:Addr) (s₂:Shared) (H₂:Hp) (fp:List Addr),PE (cB X scope C x y M s₂ H₂ fp) elt te)
   (hsw:swapsWith (.ListComp elt [⟨tg,iter,ifs,0⟩] scope pos) (some (.Name z py)) spos.line X.env=pure true)
   (hs:∀ x,foldedSetIterable iter X.env x=pure x) (hf:X.fn z=true∨X.env.scope.names.lookup z=some .local) :
   PS X (.Assign [.Name z py] (.ListComp elt [⟨tg,iter,ifs,0⟩] scope pos) spos) (Lp (Ow wi g tc te) (dH i)):=by
 intro pins s σ H Dn I h
 rw [exec_Assign_Name_used _ _ _ _ hsw]
 refine wpAny_bind (wpAny_standAt (wpAny_bind ?_))
 show wpAny _ X.A (do let _ ← comprehension (.ListComp elt [⟨tg,iter,ifs,0⟩] scope pos) scope X.env _ (newList []) false (eval iter X.env) (some (assign (.Name z py) X.env))) _ _ s
 refine wpAny_bind (dm (wpAny_comprehension_free (use:=some (assign (.Name z py) X.env)) (Q:=fun _ s'=>SP X pins Dn .next s') rfl hs (K.base.closure I.ok) K.base.kind K.base.names (dm (hi pins s σ H _ I h) fun v s1 h1=>dm h1 fun itv s2 h2=>?_)) fun _ s' hq=>wpAny_pure (wpAny_pure hq))
 obtain⟨it,fp,tn,J,H2,e,I2,T,st2,f2,n,W,hsz,w0,turn⟩:=h2
 subst e
 refine vJ (RR:=fun acc C=>compPost (model X.prog X.w) X.A X.xe (some (assign (.Name z py) X.env)) (fun _ s'=>SP X pins Dn .next s') acc C) K hc I2 hg ht he T st2 f2 hsz (F:=fun ys H=>∀ p,H p=none→Dn.nx (σ.set i (some (.ref p))) (upd H p (.lst ys))) w0 turn ?_
 intro D C s' H' ys m I' n' fC ns fin
 refine wpAny_assign_Name (uz (v:=.ref D) I' hN hy hl rfl (fun s'' I'' ch=>?_) hf)
 obtain⟨f0,f1,f2,f3,f4,f5⟩:=fC
 obtain⟨a,sb1,ha⟩:=ch
 have hCa:C≠a:=by
   rcases ha with z | z
   · rw [z];exact f1
   · exact Ne.symm (f4 _ a z)
 refine⟨m,ns.sameBut sb1 hCa,fun h' sb=>?_⟩
 exact⟨_,_,I''.turned (t':=s''.toks) (it:=C) (fun b o hb e=>(sb.2 b hb).trans e) f0 f1 f3 f4 f5,fin D n'⟩
theorem Ge {i:Nat}{z:Str}{spos py:Pos} (hN:X.N.Nodup) (hy:X.N[i]? = some z) (hl:Loc X.env.scope z) (K:lF X scope x y M) (hc:X.calm=true) (hi:PI X (.Tuple [.Name x p1,.Name y p2] kk p3) iter wi) (ht:∀ (C:Addr) (s₂:Shared) (H₂:Hp) (fp:List Addr),Ml (cB X scope C x y M s₂ H₂ fp) ifs tc) (he:∀ (C:Addr) (s₂:Shared) (H₂:Hp) (fp:List Addr),PE (cB X scope C x y M s₂ H₂ fp) elt te)
   (hsw:swapsWith (.ListComp elt [⟨.Tuple [.Name x p1,.Name y p2] kk p3,iter,ifs,0⟩] scope pos) (some (.Name z py)) spos.line X.env=pure true:=by rfl)
   (hs:∀ x,foldedSetIterable iter X.env x=pure x:=by intro _;rfl) (hf:X.fn z=true∨X.env.scope.names.lookup z=some .local:=by first | exact .inl rfl | exact .inr rfl | assumption) :
   PS X (.Assign [.Name z py] (.ListComp elt [⟨.Tuple [.Name x p1,.Name y p2] kk p3,iter,ifs,0⟩] scope pos) spos) (Lp (OD X.K wi tc te) (dH i)):=by
 intro pins s σ H D I h
 have q:=Ph (pos:=pos) (spos:=spos) hN hy hl K hc (wi:=fun σ0 H0 R0=>∃ R,wi σ0 H0 R∧∀ J H1,R J H1→R0 J H1) (sU hi fun σ H R ⟨R1,a,b⟩=>⟨R1,a,b⟩) (fun C s₂ H₂ fp=>OJ (p1:=p1) (p2:=p2) (p3:=p3) (kk:=kk) K hc) ht he hsw hs hf pins s σ H D I
 refine q ⟨_,h,fun J H1 r=>?_⟩
 obtain⟨n,W,h1,h2,h3⟩:=r.ex
 refine⟨n,W,h1,h2,fun i ys H' hi hy hw=>?_⟩
 rcases h3 i ys H' hi hy hw with hq | ⟨g1,g2,g3⟩
 · exact .inl hq
 · refine .inr ⟨g1,g2,fun z H2 hz u v=>?_⟩
   obtain⟨p,a,b,e,hq,t⟩:=g3 z H2 hz
   exact⟨p,[a,b],e,hq,rfl,a,[b],rfl,b,[],rfl,rfl,⟨_,_,rfl⟩,t⟩
end
end L2
namespace L2
open PySem PySem.Spec PyProof.Rows PySem.Calls
end L2
namespace L2
open PySem PySem.Spec PyProof.Rows PySem.Calls
section
variable {X:Cx}{pins:List (Addr × Obj)}{σ:St}{H:Hp}{s:Shared}{h':Heap}
end
section
variable {X:Cx}{ea eb:Expr}{t:TA}{p pos tp:Pos}{elts:List Expr}{x1:Nat}
end
end L2
namespace L2
open PySem PySem.Spec PyProof.Rows PySem.Calls
end L2
namespace L2
open PySem PySem.Spec PyProof.Rows PySem.Calls
section
variable {X:Cx}{scope:Scope}{x:Str}{M:List Str}{pins:List (Addr × Obj)}{σ:St}{H₂:Hp}{s₂:Shared}{elt iter tg:Expr}{ifs:List Expr}{pos px:Pos}{te:TE}{wi:TI}{g:TG}{tc:TT}
structure aka (J:It) (tc:TT) (te:TE) (σ:St) (H1:Hp) (Q:VK):Prop where
 ex:∃ (n:Nat) (W:Nat→List V→Hp→Prop),n≤sizeLine∧W 0 [] H1∧∀ i ys H,i≤n→ys.length≤i→W i ys H →
   (J.stop i H∧∀ p,H p=none→Q (.ref p) (upd H p (.lst ys)))∨(J.go i H∧i<n∧∀ z H',J.Ih i H z H'→tc (some z::σ) H' fun c H3=>if c=true then te (some z::σ) H3 fun z H4=>W (i+1) (ys++[z]) H4 else W (i+1) ys H3)
end
section
variable {X:Cx}{k:Nat}{m:Str}{pos apos:Pos}{o:Expr}{ta:TE}
end
end L2
namespace L2
open PySem PySem.Spec PyProof.Rows PySem.Calls
section
variable {X:Cx}{ea:Expr}{t:TA}{p pos tp:Pos}{elts:List Expr}{x1:Nat}
end
end L2
namespace L2
open PySem PySem.Spec PyProof.Rows PySem.Calls
section
variable {X:Cx}
theorem KR (hu:X.A.units+1<cLine):jb X (compareOp .In) (fun x y H Q=>∃ a o,y=.ref a∧il H a x o∧Q (.bl o.isSome) H):=by
 intro pins s σ H x y v u Q I rx ry h
 obtain⟨a,o,rfl,g,q⟩:=h
 cases ry
 exact ajX hu I g rx fun s' I'=>⟨.bl _,H,I',rfl,q⟩
theorem yc (hu:X.A.units+1<cLine):jb X (compareOp .NotIn) (fun x y H Q=>∃ a o,y=.ref a∧il H a x o∧Q (.bl (!o.isSome)) H):=by
 intro pins s σ H x y v u Q I rx ry h
 obtain⟨a,o,rfl,g,q⟩:=h
 cases ry
 exact Rz hu I g rx fun s' I'=>⟨.bl _,H,I',rfl,q⟩
end
theorem R6:typeLookup (.type "list") "keys" = pure none:=by rw [typeLookup_type,builtinLookup_eq_fast];kernel_rfl
theorem Pj {prog:Program}{w:World}{A:Around}{E:Value→Shared→Prop}{s:Shared}{a:Addr}{xs:Array Value}{k:Nat}{sl:Array (Option Value)}{Q:Option Value→Shared→Prop}
   (hx:s.heap.get? a=some ⟨.type "list",none,.seq xs k,sl⟩) (hA:A.handled=none) (h:∀ h' tk e,Heap.NewExcOf s.heap h' e "AttributeError"→Q none { s with heap:=h',toks:=tk }) :
   wpAny (model prog w) A (getAttr? (.ref a) "keys") Q E s:=by
 obtain⟨hp,g,d,tk,os⟩:=s
 have ty:∀ j,(⟨hp,g,d,j,os⟩:Shared).TypeIs (.ref a) "list":=fun _=>⟨_,hx,rfl⟩
 have a1:=sub_AttributeError
 have a3:=PySem.F.slot_list_getattribute.lookup
 have a4:=PySem.F.slot_list_getattribute.bind (.ref a)
 have a5:=am_list_getattr_none
 unfold getAttr? getAttrBy? getAttrBy
 repeat (any_goals (first
   | assumption
   | exact ty _
   | ((with_reducible show wpAny _ _ (call (Value.builtin "list.__getattribute__") _ _) _ _ _)
      refine call_meets PySem.F.slot_list_getattribute (ty _) am_entry_list_getattribute (PySem.F.args_list_getattribute_2 _ _) (meets_getattribute_miss_list a xs k sl "keys" _ R6 (by decide) (by size_fits)) ⟨hx,hA,fun h' tk' e hx'=>?_⟩)
   | wp_step))
 obtain⟨t',u',he⟩:=hx'.there
 show wpAny _ _ (getattributeRaised _ _ _ _ _ _ _) _ _ _
 unfold getattributeRaised hookOrError
 repeat (any_goals (first | assumption | wp_step))
 exact h _ _ _ hx'.of
theorem Pk:entryFor table "dict.update.loop" = some Builtin.«dict.update.loop»:=entryFor_of_tree (by kernel_rfl)
theorem Av {X:Cx} (hc:X.calm=true):cL X (.type "dict") (fun xs H Q=>∃ p,xs=[.ref p]∧H p=some (.lst [])∧∀ d,H d=none→Q (.ref d) (upd H d (.dK []))):=by
 intro pins s σ H xs us Q I r h
 obtain⟨p,rfl,hp,q⟩:=h
 obtain⟨u,rfl,ru⟩:=r.one
 cases ru
 obtain⟨_,its,n,rv,ho⟩:=(show cu X.prog X.w H s.heap p (.lst []) from I.hok p _ hp)
 cases rv
 have big:=I.big
 have hand:X.A.handled=none:=I.ok.hd hc
 refine callType_codes (Q₁:=fun obj s₁=>obj=.ref s.heap.objs.size∧s₁={ s with heap:=s.heap.push { cls:=.type "dict",data:=.dict #[] } }) PySem.F.kt_called_dict (PySem.F.kt_typeCall_dict_1 _) PySem.F.entry_dict_init (kt_code_dict_new _ ⟨rfl,rfl⟩) ?_
 rintro obj s₁ ⟨rfl,rfl⟩
 have new:(s.heap.push { cls:=.type "dict",data:=.dict #[] }).DictOf (cO X.prog X.w) s.heap.objs.size []:=Heap.DictOf.new s.heap
 refine⟨new.typeIs,PySem.F.args_dict_init_2 _ _,?_⟩
 unfold Builtin.«dict.__init__» Builtin.Dict.selfAndRest
 refine wpAny_bind (wpAny_bind (wpAny_notOrdered_dict new.typeIs ?_))
 show wpAny _ _ (pure (s.heap.objs.size,[Value.ref p])) _ _ _
 refine wpAny_pure ?_
 show wpAny _ _ (Builtin.Dict.updateFrom "dict.__init__" _ (.ref p) [] .none) _ _ _
 unfold Builtin.Dict.updateFrom
 have ho1:=Heap.get?_push_of_some { cls:=.type "dict",data:=.dict #[] } ho
 refine wpAny_bind (wpAny_typeOf (T:="list") ⟨_,ho1,rfl⟩ ?_)
 rw [if_pos (by decide)]
 refine wpAny_bind (Pj ho1 (show X.A.in1.in1.handled=none from hand) fun h1 tk1 e1 x1=>?_)
 rw [if_pos (by rfl)]
 have ho2:=x1.keeps _ _ ho1
 have hl2:h1.IsList p #[]:=⟨_,ho2,rfl,n,rfl⟩
 refine wpAny_bind (wpAny_rule (wpAny_bind (wpAny_pyIter_list (s:={ s with heap:=h1,toks:=tk1 }) hl2 ?_)))
 refine wpAny_pure ⟨plainId_quiet (by symm) _,codeAny_builtin Pk ?_⟩
 have it:(h1.push { cls:=.type "list_iterator",data:=.fields #[.ref p,.int 0 0] }).IsListIter h1.objs.size p 0:=⟨_,Heap.get?_push_size _ rfl,rfl,rfl⟩
 have hl3:(h1.push { cls:=.type "list_iterator",data:=.fields #[.ref p,.int 0 0] }).IsList p #[]:=⟨_,Heap.get?_push_of_some _ ho2,rfl,n,rfl⟩
 unfold Builtin.«dict.update.loop»
 refine wpAny_bind (wpAny_pyNext_list_end (i:=0) (l:=p) (items:=#[]) (by first | exact hand | (rw [Around.under_plainId (by symm)];exact hand)) it hl3 (by rfl) fun h2 x2=>?_)
 show wpAny _ _ (Builtin.Dict.addKeywords s.heap.objs.size [] >>= _) _ _ _
 have kk:∀ b o,(s.heap.push { cls:=.type "dict",data:=.dict #[] }).get? b=some o→h2.get? b=some o:=fun b o e=>by
   have e1:=x1.keeps b o e
   exact x2 b o (Nat.ne_of_lt (Heap.lt_size e1)) (Heap.get?_push_of_some _ e1)
 exact wpAny_bind (wpAny_pure (wpAny_pure ⟨rfl,.ref s.heap.objs.size,_,I.laid (a:=s.heap.objs.size) (o:=.dK []) (h':=h2) (t':=tk1) (fun b o e=>kk b o (Heap.get?_push_of_some _ e)) (Nat.le_refl _) ⟨Nat.zero_le _,beq_eq_false_iff_ne.mpr (Ne.symm (Nat.ne_of_lt big)),[],.nil,new.keep kk⟩,rfl,q _ (I.hok.fresh (Nat.le_refl _))⟩))
end L2
namespace L2
open PySem PySem.Spec PySem.Calls PyProof.Rows
def Ji (h:Heap) (d:Addr) (es:Array DictEntry) (ep:Nat):Prop:=∃ o,h.get? d=some o∧o.ExactDict∧o.data=.dict es ep
theorem Ji.keep {h h':Heap}{d:Addr}{es:Array DictEntry}{ep:Nat} (x:Ji h d es ep) (k:∀ o,h.get? d=some o→h'.get? d=some o):Ji h' d es ep:=let ⟨o,ho,r⟩:=x; ⟨o,k o ho,r⟩
theorem Ji.lt {h:Heap}{d:Addr}{es:Array DictEntry}{ep:Nat} (x:Ji h d es ep):d<h.objs.size:=let ⟨_,ho,_⟩:=x;Heap.lt_size ho
section
variable {prog:Program}{w:World}{A:Around}{E:Value→Shared→Prop}{s:Shared}{d it:Addr}{es:Array DictEntry}{ep i:Nat}
theorem Ji.ty (x:Ji s.heap d es ep):s.TypeIs (.ref d) "dict":=let ⟨o,ho,c,_⟩:=x; ⟨o,ho,c.1⟩
end
section
variable {X:Cx}{pos:Pos}
end
end L2
namespace L2
open PySem PySem.Spec PySem.Calls PySem.W PyProof.Rows
inductive Jj (n:Nat) {α:Type} (R:α→Prop):KasT α→Prop
 | ret {a:α}:R a→Jj n R (.ret a)
 | ask {i j:Nat}{k:Bool→KasT α}:i<n→j<n→(∀ b,Jj n R (k b))→Jj n R (.ask i j k)
theorem Jj.bind {n:Nat}{α β:Type}{R:α→Prop}{S:β→Prop}{f:α→KasT β}{t:KasT α} (h:Jj n R t) (k:∀ a,R a→Jj n S (f a)):Jj n S (t.bind f):=by
 induction h with
 | ret r=>exact k _ r
 | ask hi hj _ ih=>exact .ask hi hj ih
def PlG (n:Nat) (p:Array Nat):Prop:=p.size=n∧∀ x∈p,x<n
theorem PlG.at {n:Nat}{p:Array Nat} (h:PlG n p) (hn:0<n) (k:Nat):p.getD k 0<n:=by
 rw [Array.getD_eq_getD_getElem?]
 by_cases hk:k<p.size
 · rw [Array.getElem?_eq_getElem hk];exact h.2 _ (Array.getElem_mem hk)
 · rw [Array.getElem?_eq_none (by omega)];exact hn
end L2
namespace L2
open PySem PySem.Spec PySem.Calls PySem.W PyProof.Rows
section
variable {prog:Program}{w:World}{A:Around}{E:Value→Shared→Prop}{s:Shared}
def VG (h:Heap) (v:Value):Prop:=∃ x o q t tq tt m,v=.ref x∧h.get? x=some o∧o.cls=.type "tuple"∧o.data=.seq #[.str q tq,.str t tt] m
theorem VG.keep {h h':Heap}{v:Value} (x:VG h v) (k:∀ b o,h.get? b=some o→o.cls=.type "tuple"→h'.get? b=some o):VG h' v:=let ⟨a,o,q,t,tq,tt,m,e,ho,hc,r⟩:=x; ⟨a,o,q,t,tq,tt,m,e,k _ _ ho hc,hc,r⟩
end
end L2
namespace L2
open PySem PySem.Spec PyProof.Rows PySem.Calls
section
variable {X:Cx}{scope:Scope}{x y z:Str}{M:List Str}{elt iter:Expr}{ifs:List Expr}{pos p1 p2 p3 p4:Pos}{kk:Nat}{te:TE}{wi:TI}{tc:TT}
structure agC (K:PySem.W.Frag) (J:It) (tc:TT) (te:TE) (σ:St) (H1:Hp) (Q:VK):Prop where
 ex:∃ (n:Nat) (W:Nat→List V→Hp→Prop),n≤sizeLine∧W 0 [] H1∧∀ i ys H,i≤n→ys.length≤i→W i ys H →
   (J.stop i H∧∀ p,H p=none→Q (.ref p) (upd H p (.lst ys)))∨(J.go i H∧i<n∧∀ z H',J.Ih i H z H'→∃ (p:Addr) (a b d:V),z=.ref p∧ik K H' p [a,b,d]∧tc (some a::some b::σ) H' fun c H3=>if c=true then te (some a::some b::σ) H3 fun z H4=>W (i+1) (ys++[z]) H4 else W (i+1) ys H3)
end
end L2
namespace L2
open PySem PySem.Spec PyProof.Rows PySem.Calls PySem.W PySem.Builtin PySem.Builtin.ObjectAttr PySem.Builtin.Getset_descriptor
structure akb (K:PySem.W.Frag) (D:Addr) (f:Str):Prop where
 ga:findIn K (.ref D) "__getattribute__" = some (some (.builtin "BaseException.__getattribute__"))
 gk:findIn K (.ref D) "__getattr__" = some none
 hd:hasDictIn K D=true
 at_:findIn K (.ref D) f=some none
 mb:mroIn K D (.type "BaseException")=some true
section
variable {prog:Program}{w:World}{A:Around}{E:Value→Shared→Prop}{s:Shared}{K:PySem.W.Frag}{x D:Addr}{ox:Obj}{od:Obj}{name:Str}{v:Value}
def Pn:List Value→Bool
 | .ref _::r=>Pn r
 | l=>l == T3
structure akc (K:PySem.W.Frag) (D:Addr) (f:Str):Prop where
 sa:findIn K (.ref D) "__setattr__" = some (some (.builtin "object.__setattr__"))
 hd:hasDictIn K D=true
 at_:findIn K (.ref D) f=some none
 mr:(clsIn K D).any (fun cd=>Pn cd.mro)=true
 mo:mroIn K D (.type "object")=some true
end
end L2
namespace L2
open PySem PySem.Spec PyProof.Rows PySem.Calls PySem.W PySem.Builtin PySem.Builtin.ObjectAttr PySem.Builtin.Getset_descriptor
def VH (K:PySem.W.Frag) (C:Addr):Bool:=match K.lookup C with
 | some ⟨.type "type",_,.cls cd,sl⟩=>(match cd.mro,sl.toList with
   | .ref C'::bm,[_,_,_,_,some (.builtin n),_]=>C' == C && n == "ValueError.__new__" && !cd.hasDel && tailIn K T3 bm
   | _,_=>false)
 | _=>false
section
variable {prog:Program}{w:World}{A:Around}{E:Value→Shared→Prop}{s:Shared}{K:PySem.W.Frag}{C fI:Addr}
end
end L2
namespace L2
open PySem PySem.Spec PyProof.Rows PySem.Calls PySem.W PySem.Builtin PySem.Builtin.ObjectAttr PySem.Builtin.Getset_descriptor
structure arh (K:PySem.W.Frag) (C:Addr):Prop where
 rd:PySem.W.readsIn K C (.type "type")=true
 at_:PySem.W.findCls K (.ref C) (.type "type") "__init__" = some (.val (.builtin "ValueError.__init__"))
 sp:PySem.W.specialIn K (.ref C) "__getattribute__" = some (some (.builtin "type.__getattribute__"))
section
variable {X:Cx}{pos apos np:Pos}{e:Expr}{es:List Expr}{t:TA}{x:Str}{C0:Addr}
end
end L2
namespace L2
open PySem PySem.Spec PyProof.Rows PySem.Calls PySem.W PySem.Builtin
section
variable {X:Cx}{pins:List (Addr × Obj)}{σ:St}{H:Hp}{s:Shared}{o value:Expr}{f:Str}{pos pos':Pos}{ta tv:TE}
end
section
variable {P:Program}{w:World}{K:PySem.W.Frag}{mg:Str→Option Value}{base:Heap}{N:List Str}{qual:Str}{scope:Scope}{f:Addr}{cdv:Value}{A:Around}{outer:List Env}{s:Shared}{H:Hp}{E:XK}
end
end L2
namespace L2
open PySem PySem.Spec PyProof.Rows PySem.Calls PySem.W PySem.Builtin
section
variable {P:Program}{w:World}{K:PySem.W.Frag}{mg:Str→Option Value}{base:Heap}{N:List Str}{qual:Str}{scope:Scope}{f:Addr}{cdv:Value}{A:Around}{outer:List Env}{s:Shared}{H:Hp}{E:XK}
structure MkX (K:PySem.W.Frag) (C f:Addr):Prop where
 ex:VH K C=true
 init:PySem.W.findIn K (.ref C) "__init__" = some (some (.ref f))
 fn:PySem.W.isFn K (.ref f)=true
 kp:PySem.W.keepIn K (.ref C)=true
end
end L2
namespace L2
open PySem PySem.Spec PyProof.Rows PySem.Calls
section
variable {X:Cx}
variable {tg:Expr}
end
end L2
namespace L2
open PySem PySem.Spec PyProof.Rows PySem.Calls PySem.W
section
variable {K:PySem.W.Frag}{C A0 fI:Addr}{xo:Value}{xd:Option Addr}{cd cdA:ClassData}{sl:Array (Option Value)}
end
section
variable {X:Cx}{scope:Scope}{x:Str}{M:List Str}{pins:List (Addr × Obj)}{σ:St}{H₂:Hp}{s₂:Shared}{elt iter tg:Expr}{ifs:List Expr}{pos px:Pos}{te:TE}{wi:TI}{g:TG}{tc:TT}
end
end L2
namespace L2
open PySem PySem.Spec PyProof.Rows PySem.Calls
section
variable {X:Cx}{o:Expr}{to:TE}{apos cpos tp:Pos}{elts:List Expr}{x1:Nat}
end
end L2
namespace L2
open PySem PySem.Spec PyProof.Rows PySem.Calls
section
variable {X:Cx}
end
theorem PS.Aj {X:Cx}{st:Stmt}{t:TS} (h:PS X.Aj st t):PS X st t:=fun pins s σ H D I hw =>
 wpAny_mono (h pins s σ H D (I.wish _) hw) (fun _ _ q=>q.jo) fun _ _ z=>False.elim z
end L2
namespace L2
open PySem PySem.Spec PyProof.Rows PySem.Calls
section
variable {M:Model}{A:Around}{E:Value→Shared→Prop}{s:Shared}
end
section
variable {P:Program}{w:World}{K:PySem.W.Frag}{mg:Str→Option Value}{base:Heap}{N:List Str}{qual:Str}{scope:Scope}{f:Addr}{cdv:Value}{A:Around}{outer:List Env}{s:Shared}{H:Hp}{E:XK}
end
section
variable {P:Program}{w:World}{K:PySem.W.Frag}{mg:Str→Option Value}{base:Heap}
end
end L2
namespace L2
open PySem PySem.Spec PyProof.Rows PySem.Calls
end L2
namespace L2
open PySem PySem.Spec PyProof.Rows PySem.Calls
end L2
namespace L2
open PySem PySem.Spec PyProof.Rows PySem.Calls
section
variable {P:Program}{w:World}{H:Hp}{h:Heap}{a:Addr}{kvs:List (Option Key × V)}
end
def aac:Value→V
 | .none=>.non
 | .bool b=>.bl b
 | .int i _=>.int i
 | .str x _=>.str x
 | .bytes b _=>.HX b
 | .float b _=>.flt b
 | .ref a=>.ref a
 | .type n=>.ty n
 | _=>.non
theorem RelV.back {x:V}{v:Value} (r:RelV x v):x=aac v:=by
 cases x with
 | non=>cases (show v=Value.none from r);rfl
 | bl b=>cases (show v=Value.bool b from r);rfl
 | int i=>obtain⟨t,rfl⟩:=r;rfl
 | str i=>obtain⟨t,rfl⟩:=r;rfl
 | HX i=>obtain⟨t,rfl⟩:=r;rfl
 | flt i=>obtain⟨t,rfl⟩:=r;rfl
 | ref i=>cases (show v=Value.ref i from r);rfl
 | ty i=>cases (show v=Value.type i from r);rfl
section
variable {X:Cx}{pos:Pos}
end
section
variable {X:Cx}{o:Expr}{to:TE}{apos cpos tp:Pos}{elts:List Expr}{x1:Nat}
end
section
variable {P:Program}{w:World}{a:Addr}{o:Obj}{kvs:List (Option Key × V)}{σ:St}{H:Hp}
end
section
variable {X:Cx}{tg:Expr}
end
end L2
namespace L2
open PySem PySem.Spec PySem.Calls PySem.W PyProof.Rows
section
variable {X:Cx}{pos:Pos}{P:Program}{w:World}
end
section
variable {X:Cx}{CX:Al}{k:Nat}{E:XK}{m:Str}{pos apos:Pos}{o:Expr}{ta:TE}{P:Program}{w:World}{K:PySem.W.Frag}{mg:Str→Option Value}{base:Heap}
end
end L2
namespace L2
open PySem PySem.Spec PyProof.Rows PySem.Calls
section
variable {X:Cx}{ea tg:Expr}{t:TA}{p pos:Pos}
end
section
variable {X:Cx}
end
end L2
namespace L2
open PySem PySem.Spec PyProof.Rows PySem.Calls
def Yp (rows:List (List Key × V)):List (List Key × V):=rows.foldl (fun acc r=>putK acc r.1 r.2) []
end L2
namespace L2
open PySem PySem.Spec PyProof.Rows PySem.Calls
theorem Gf {α β:Type}{R R':α→β→Prop}{as:List α}{bs:List β} (h:Paired R as bs) (f:∀ a b,R a b→R' a b):Paired R' as bs:=by
 induction h with
 | nil=>exact .nil
 | cons r _ ih=>exact .cons (f _ _ r) ih
section
variable {X:Cx}{pins:List (Addr × Obj)}{σ:St}{A:Around}{E:Value→Shared→Prop}{a:Addr}
theorem Jk {H:Hp}{s:Shared}{b:Addr}{kvs:List (List Key × V)}{k:List Key}{v:V}{r:Value}{Q:Unit→Shared→Prop} (hu:A.units+1<cLine) (I:Inv X pins σ H s) (e:H a=some (.dT kvs)) (eb:H b=some (.tup (k.map kV))) (l:kvs.length<sizeLine) (rv:RelV v r)
   (h:∀ s',Inv X pins σ (upd H a (.dT (putK kvs k v))) s'→Q () s'):wpAny (model X.prog X.w) A (dictSet a (.ref b) r) Q E s:=by
 obtain⟨z,hd,xs,rel,dd⟩:=TQ I.hok e
 have hz:xs.length≤sizeLine:=by rw [← Paired.length rel];exact z
 have hl:(putK kvs k v).length≤sizeLine:=by have:=xF kvs k v;omega
 refine wpAny_dictSet_heap (hsz:=hz) (show A.units<cLine by omega) (oU I.hok eb) dd fun h' Yo hs=>h _ ?_
 obtain⟨q,es,ep,hq,h2,h3,h4,_,h5⟩:=Yo
 refine Dd I (by rw [e];exact True.intro) hs ⟨q,hq⟩ ⟨hl,hd,_,(rel.put k eb rv).keeps fun c ys ec=>?_,q,es,ep,hq,h2,h3,h4,h5⟩
 rw [zI (yP ec e (fun z=>nomatch z))]
 exact ec
theorem VJ (hu:A.units+1<cLine):∀ {ps:List (V × V)}{ws:List (Value × Value)} (rel:VV ps ws) {rows:List (List Key × V)}{H:Hp}{s:Shared}{kvs:List (List Key × V)}{Q:PUnit→Shared→Prop},Paired (fun (x:V × V) (r:List Key × V)=>x.2=r.2∧∃ b,x.1=.ref b∧H b=some (.tup (r.1.map kV))) ps rows →
   Inv X pins σ H s→H a=some (.dT kvs)→kvs.length+rows.length≤1000→(∀ s',Inv X pins σ (upd H a (.dT (rows.foldl (fun acc r=>putK acc r.1 r.2) kvs))) s'→Q PUnit.unit s')→wpAny (model X.prog X.w) A (storeAll a ws) Q E s:=by
 intro ps ws rel
 induction rel with
 | nil =>
   intro rows H s kvs Q hp I e hl h
   cases hp
   unfold storeAll
   rw [List.forIn_nil]
   refine wpAny_pure (h s ?_)
   have:upd H a (.dT kvs)=H:=by
     funext b
     by_cases eb:b=a
     · subst eb;rw [zB,e]
     · rw [zI eb]
   show Inv X pins σ (upd H a (.dT kvs)) s
   rw [this];exact I
 | @cons x w' ps' ws' rx rel ih =>
   intro rows H s kvs Q hp I e hl h
   cases hp with
   | @cons _ r _ ari h1 h2 =>
     obtain⟨e2,b,e1,hb⟩:=h1
     obtain⟨x1,x2⟩:=x
     obtain⟨w1,w2⟩:=w'
     dsimp only at e1 e2 rx
     subst e1 e2
     cases (show w1=Value.ref b from rx.1)
     rw [List.length_cons] at hl
     unfold storeAll
     rw [List.forIn_cons]
     refine wpAny_bind (wpAny_bind (Jk hu I e hb (by rw [sizeLine_eq];omega) rx.2 fun s1 I1=>wpAny_pure ?_))
     refine ih (Gf h2 fun y r' z=>?_) I1 zB (by have:=xF kvs r.1 r.2;omega) fun s' I'=>h s' ?_
     · obtain⟨z1,c,z2,z3⟩:=z
       exact⟨z1,c,z2,by rw [zI (yP z3 e (fun z=>nomatch z))];exact z3⟩
     · rw [yH] at I'
       exact I'
end
def VL (RC:List (TE × TE)):TE:=fun σ H Q=>∀ p,H p=none→Iz RC σ (upd H p (.dT [])) fun ps H2=>H2 p=some (.dT [])∧∃ rows:List (List Key × V),Paired (fun (x:V × V) (r:List Key × V)=>x.2=r.2∧∃ b,x.1=.ref b∧H2 b=some (.tup (r.1.map kV))) ps rows∧rows.length≤15∧Q (.ref p) (upd H2 p (.dT (Yp rows)))
theorem Pq {X:Cx}{pos:Pos}{keys:List (Option Expr)}{values:List Expr}{RC:List (TE × TE)} (hu:X.A.units+1<cLine) (h:vZ X pos keys values RC) (hall:keys.all (·.isSome)=true) (hl:keys.length=values.length) (h0:keys≠[])
   (h15:keys.length≤15):PE X (.Dict keys values pos) (VL RC):=by
 intro pins s σ H Q I q
 have hn:=I.hok.fresh (Nat.le_refl s.heap.objs.size)
 have I1:=I.laid (a:=s.heap.objs.size) (o:=.dT []) (h':=s.heap.push { cls:=.type "dict",data:=.dict #[] }) (t':=s.toks) (fun _ _ q=>Heap.get?_push_of_some _ q) (Nat.le_refl _) (Oc s.heap I.big)
 refine wpAny_Dict_any hall hl h0 h15 (dm (h pins _ σ _ _ I1 (q _ hn)) fun ws s2 zq=>?_)
 obtain⟨ps,H2,I2,rel,e,rows,hp,lk,q2⟩:=zq
 exact VJ hu rel hp I2 e (by rw [List.length_nil];omega) fun s' I'=>⟨.ref s.heap.objs.size,_,I',rfl,q2⟩
end L2
namespace jB
open PySem L2
def top (i:Nat):Stmt:=PySem.Challenge.pw_askpaper_k54_ways_by_ranges.main.body.getD i (.Pass ⟨0,0,0,0⟩)
abbrev bJ:Stmt:=inClass (top 20) 0
abbrev bC:Stmt:=inClass (top 21) 0
abbrev bN:Stmt:=inClass (top 21) 1
abbrev aN:Stmt:=inClass (top 21) 2
abbrev bO:Stmt:=inClass (top 21) 4
abbrev bQ:Stmt:=inClass (top 26) 0
abbrev bR:Stmt:=inClass (top 27) 0
abbrev bD:Stmt:=inClass (top 28) 0
abbrev bF:Stmt:=inClass (top 29) 0
abbrev dw:Stmt:=top 31
abbrev cT:Stmt:=top 32
abbrev bT:Stmt:=top 36
abbrev bG:Stmt:=inClass (top 37) 0
abbrev bU:Stmt:=inClass (top 37) 4
abbrev aO:Stmt:=inClass (top 37) 5
abbrev aY:Stmt:=inClass (top 37) 6
abbrev aP:Stmt:=inClass (top 37) 8
abbrev aJ:Stmt:=inClass (top 37) 10
abbrev aK:Stmt:=inClass (top 37) 11
abbrev bK:Stmt:=inClass (top 37) 12
abbrev cD:Stmt:=inClass (top 37) 13
abbrev dB:Stmt:=top 39
abbrev bz:Stmt:=top 40
abbrev aD:Stmt:=inClass (top 41) 5
abbrev bV:Stmt:=inClass (top 42) 0
abbrev cF:Stmt:=inClass (top 42) 2
abbrev bW:Stmt:=inClass (top 42) 3
abbrev cU:Stmt:=inClass (top 42) 5
abbrev aZ:Stmt:=inClass (top 43) 0
abbrev bA:Stmt:=inClass (top 43) 2
abbrev aQ:Stmt:=inClass (top 43) 3
abbrev bH:Stmt:=inClass (top 43) 5
abbrev bY:Stmt:=inClass (top 44) 0
abbrev cg:Stmt:=inClass (top 44) 2
abbrev bL:Stmt:=inClass (top 44) 3
abbrev cG:Stmt:=inClass (top 44) 5
abbrev dC:Stmt:=top 46
abbrev dU:Stmt:=top 47
abbrev fQ:Stmt:=top 48
abbrev bI:Stmt:=inClass (top 49) 0
abbrev bc:Stmt:=inClass (top 49) 1
abbrev aR:Stmt:=inClass (top 49) 2
abbrev cj:Stmt:=inClass (top 49) 3
abbrev bB:Stmt:=inClass (top 49) 4
abbrev aG:Stmt:=inClass (top 49) 5
abbrev bf:Stmt:=inClass (top 49) 6
abbrev dD:Stmt:=top 50
abbrev dF:Stmt:=top 52
abbrev dG:Stmt:=top 53
abbrev cV:Stmt:=top 54
abbrev dW:Stmt:=top 55
abbrev cW:Stmt:=top 56
abbrev cX:Stmt:=top 57
abbrev dX:Stmt:=top 58
abbrev cH:Stmt:=top 59
abbrev cY:Stmt:=top 60
abbrev dY:Stmt:=top 61
abbrev cZ:Stmt:=top 62
abbrev tu:Stmt:=top 63
set_option genInjectivity false
set_option genSizeOf false
structure cQ where
 fY:Addr
 jq:FuncData
 iy:Addr
 iz:FuncData
 jV:Addr
 jW:FuncData
 fB:Addr
 fD:FuncData
 jX:Addr
 jY:FuncData
 jZ:Addr
 j4:FuncData
 j5:Addr
 j6:FuncData
 jr:List Value
 iB:Addr
 iC:FuncData
 iD:Addr
 iG:FuncData
 nu:Addr
 q9:FuncData
 lG:Addr
 o5:FuncData
 gM:Addr
 j7:FuncData
 iH:Addr
 iI:FuncData
 j8:Addr
 j9:FuncData
 fG:Addr
 fH:FuncData
 gj:Addr
 gm:FuncData
 fJ:Addr
 fK:FuncData
 eF:Addr
 eG:FuncData
 eN:Addr
 eO:FuncData
 jt:Addr
 ju:FuncData
 nA:Addr
 nC:FuncData
 nD:Addr
 rn:FuncData
 d8:Addr
 gO:FuncData
 cA:Addr
 dZ:FuncData
 mC:Addr
 je:FuncData
 kh:List Value
 nF:Addr
 nG:FuncData
 kj:Addr
 km:FuncData
 o6:Addr
 o7:FuncData
 gn:Addr
 gq:FuncData
 gP:Addr
 gQ:FuncData
 fL:Addr
 fM:FuncData
 iJ:Addr
 iK:FuncData
 kE:Addr
 kI:FuncData
 mD:Addr
 mF:FuncData
 jw:Addr
 jx:FuncData
 nH:Addr
 nJ:FuncData
 nM:Addr
 rA:FuncData
 qg:Addr
 uJ:FuncData
 tD:Addr
 yd:FuncData
 iM:Addr
 iQ:FuncData
 gr:Addr
 gw:FuncData
 fO:Addr
 fP:FuncData
 mG:Addr
 mH:FuncData
 gR:Addr
 gU:FuncData
 jy:Addr
 aL:FuncData
 gA:Addr
 gB:FuncData
 nO:Addr
 rB:FuncData
 nP:Addr
 rC:FuncData
 nQ:Addr
 rD:FuncData
 lH:Addr
 o8:FuncData
 qi:Addr
 uK:FuncData
 lJ:Addr
 o9:FuncData
 lK:Addr
 ph:FuncData
 qj:Addr
 uL:FuncData
 jG:Addr
 nR:FuncData
 lL:Addr
 pq:FuncData
 ql:Addr
 uM:FuncData
 lM:Addr
 pA:FuncData
 Pr:Addr
 Pu:FuncData
 mY:Addr
 mZ:Addr
 au:Addr
 bZ:Addr
 KY:Addr
 m5:Addr
 Px:Addr
 Dp:Addr
 oh:Addr
 fZ:Addr
 Jl:Addr
 T9:Addr
 aad:Addr
 gb:Addr
 cI:Addr
 bj:Addr
structure Txt (K:W.Frag) (mg:Str→Option Value) (A:cQ):Prop where
 v9:fX K "__init__" "Kind.__init__" bJ A.fY A.jq
 ou:Binds K A.jq ["self","low","high"] []
 uN:fX K "__init__" "YesNo.__init__" bC A.iy A.iz
 iR:Binds K A.iz ["self"] []
 ye:fX K "fits" "YesNo.fits" bN A.jV A.jW
 yf:Binds K A.jW ["self","thing"] []
 qt:fX K "answer_of" "YesNo.answer_of" aN A.fB A.fD
 qu:Binds K A.fD ["self","text"] []
 yg:fX K "rank" "YesNo.rank" bO A.jX A.jY
 yh:Binds K A.jY ["self","answer"] []
 yj:fX K "__init__" "Row.__init__" bQ A.jZ A.j4
 yl:Binds K A.j4 ["self","name"] []
 ym:Jf K "__init__" "Ask.__init__" bR A.jr A.j5 A.j6
 gf:Binds K A.j6 ["self","name","kind","when"] A.jr
 gh:Vals [.non] A.jr
 uO:fX K "__init__" "Sheet.__init__" bD A.iB A.iC
 iT:Binds K A.iC ["self","name","each","rows","ways"] []
 uP:fX K "__init__" "Paper.__init__" bF A.iD A.iG
 uQ:Binds K A.iG ["self","name","sheets","totals"] []
 Jm:fX K "kinds_of" "kinds_of" dw A.nu A.q9
 Jo:Binds K A.q9 ["paper"] []
 Jp:W.keepIn K (.ref A.nu)=true
 Jq:mg "kinds_of" = some (.ref A.nu)
 Gg:fX K "eaches_of" "eaches_of" cT A.lG A.o5
 Gh:Binds K A.o5 ["paper"] []
 Gi:W.keepIn K (.ref A.lG)=true
 Gj:mg "eaches_of" = some (.ref A.lG)
 yo:fX K "all_together" "all_together" bT A.gM A.j7
 yp:Binds K A.j7 ["paper"] []
 yq:W.keepIn K (.ref A.gM)=true
 yr:mg "all_together" = some (.ref A.gM)
 uR:fX K "__init__" "Going.__init__" bG A.iH A.iI
 uT:Binds K A.iI ["self","paper","alone"] []
 yt:fX K "note" "Going.note" bU A.j8 A.j9
 yu:Binds K A.j9 ["self","question","thing","known"] []
 qw:fX K "own_thing" "Going.own_thing" aO A.fG A.fH
 qx:Binds K A.fH ["self","question","thing"] []
 rE:fX K "known_of" "Going.known_of" aY A.gj A.gm
 rF:Binds K A.gm ["self","question","thing"] []
 qy:fX K "stop_with" "Going.stop_with" aP A.fJ A.fK
 qz:Binds K A.fK ["self","row"] []
 pB:fX K "go_through" "Going.go_through" aJ A.eF A.eG
 pC:Binds K A.eG ["self","sheet","thing"] []
 pD:fX K "targets_of" "Going.targets_of" aK A.eN A.eO
 pF:Binds K A.eO ["self","sheet"] []
 wg:fX K "leave" "Going.leave" bK A.jt A.ju
 wj:Binds K A.ju ["self","place"] []
 Dq:fX K "go" "Going.go" cD A.nA A.nC
 Dr:Binds K A.nC ["self"] []
 Jr:fX K "compares" "compares" dB A.nD A.rn
 Js:Binds K A.rn ["rank","how","number"] []
 Jt:W.keepIn K (.ref A.nD)=true
 Ju:mg "compares" = some (.ref A.nD)
 tE:fX K "surely_compares" "surely_compares" bz A.d8 A.gO
 lN:Binds K A.gO ["span","how","number"] []
 lO:W.keepIn K (.ref A.d8)=true
 lQ:mg "surely_compares" = some (.ref A.d8)
 oG:fX K "first_open" "Saying.first_open" aD A.cA A.dZ
 d7:Binds K A.dZ ["self","look"] []
 Aw:Jf K "__init__" "Is.__init__" bV A.kh A.mC A.je
 Ax:Binds K A.je ["self","name","word","place"] []
 yw:Binds K A.je ["self","name","word","place"] A.kh
 yx:Vals [.non] A.kh
 Ds:fX K "atoms" "Is.atoms" cF A.nF A.nG
 Dt:Binds K A.nG ["self"] []
 yz:fX K "settled" "Is.settled" bW A.kj A.km
 za:Binds K A.km ["self","kinds"] []
 Gk:fX K "sure" "Is.sure" cU A.o6 A.o7
 Gm:Binds K A.o7 ["self","look"] []
 rG:fX K "__init__" "Compare.__init__" aZ A.gn A.gq
 kJ:Binds K A.gq ["self","name","how","number"] []
 tG:fX K "atoms" "Compare.atoms" bA A.gP A.gQ
 tH:Binds K A.gQ ["self"] []
 qC:fX K "settled" "Compare.settled" aQ A.fL A.fM
 qD:Binds K A.fM ["self","kinds"] []
 uU:fX K "sure" "Compare.sure" bH A.iJ A.iK
 uV:Binds K A.iK ["self","look"] []
 zb:fX K "__init__" "Not.__init__" bY A.kE A.kI
 pG:Binds K A.kI ["self","test"] []
 Ay:fX K "atoms" "Not.atoms" cg A.mD A.mF
 Az:Binds K A.mF ["self"] []
 wk:fX K "settled" "Not.settled" bL A.jw A.jx
 wu:Binds K A.jx ["self","kinds"] []
 Du:fX K "sure" "Not.sure" cG A.nH A.nJ
 Dv:Binds K A.nJ ["self","look"] []
 Jv:fX K "range_in" "range_in" dC A.nM A.rA
 Jw:Binds K A.rA ["box","kinds","question","k"] []
 Jx:W.keepIn K (.ref A.nM)=true
 Jy:mg "range_in" = some (.ref A.nM)
 Ms:fX K "cut_out" "cut_out" dU A.qg A.uJ
 Ce:Binds K A.uJ ["number","low"] []
 Cg:W.keepIn K (.ref A.qg)=true
 Ci:mg "cut_out" = some (.ref A.qg)
 Py:fX K "cut_of" "cut_of" fQ A.tD A.yd
 Pz:Binds K A.yd ["atom","low"] []
 PB:W.keepIn K (.ref A.tD)=true
 PJ:mg "cut_of" = some (.ref A.tD)
 uW:fX K "__init__" "ByBox.__init__" bI A.iM A.iQ
 uX:Binds K A.iQ ["self","paper","box"] []
 rH:fX K "split_at" "ByBox.split_at" bc A.gr A.gw
 rJ:Binds K A.gw ["self","question","thing","cut"] []
 qF:fX K "things_of" "ByBox.things_of" aR A.fO A.fP
 qG:Binds K A.fP ["self","sheet"] []
 Ba:fX K "put" "ByBox.put" cj A.mG A.mH
 Bb:Binds K A.mH ["self","question","thing"] []
 tK:fX K "span_of" "ByBox.span_of" bB A.gR A.gU
 tL:Binds K A.gU ["self","name","thing"] []
 wy:fX K "is_so" "ByBox.is_so" aG A.jy A.aL
 wz:Binds K A.aL ["self","saying","thing"] []
 rK:fX K "split_by" "ByBox.split_by" bf A.gA A.gB
 rM:Binds K A.gB ["self","atom","thing"] []
 Jz:fX K "going_by" "going_by" dD A.nO A.rB
 JB:Binds K A.rB ["paper","box"] []
 JC:W.keepIn K (.ref A.nO)=true
 JD:mg "going_by" = some (.ref A.nO)
 JG:fX K "_law_cell" "_law_cell" dF A.nP A.rC
 gC:Binds K A.rC ["_law_script","_law_k"] []
 gD:W.keepIn K (.ref A.nP)=true
 gG:mg "_law_cell" = some (.ref A.nP)
 JH:fX K "_law_name" "_law_name" dG A.nQ A.rD
 JL:Binds K A.rD ["_law_script","_law_k"] []
 JM:W.keepIn K (.ref A.nQ)=true
 JP:mg "_law_name" = some (.ref A.nQ)
 Gn:fX K "_law_three" "_law_three" cV A.lH A.o8
 Gp:Binds K A.o8 ["_law_how","_law_low","_law_high","_law_number"] []
 Gq:W.keepIn K (.ref A.lH)=true
 Gu:mg "_law_three" = some (.ref A.lH)
 Mt:fX K "_law_cut" "_law_cut" dW A.qi A.uK
 Mu:Binds K A.uK ["_law_how","_law_low","_law_number"] []
 Mv:W.keepIn K (.ref A.qi)=true
 Mw:mg "_law_cut" = some (.ref A.qi)
 Gv:fX K "_law_alike" "_law_alike" cW A.lJ A.o9
 vK:Binds K A.o9 ["_law_found","_law_due"] []
 vL:W.keepIn K (.ref A.lJ)=true
 vM:mg "_law_alike" = some (.ref A.lJ)
 Gw:fX K "_law_spans" "_law_spans" cX A.lK A.ph
 Gx:Binds K A.ph ["_law_script"] []
 Gy:W.keepIn K (.ref A.lK)=true
 Gz:mg "_law_spans" = some (.ref A.lK)
 Mx:fX K "_law_way" "_law_way" dX A.qj A.uL
 Cj:Binds K A.uL ["_law_cell_here","_law_spans_here"] []
 Ck:W.keepIn K (.ref A.qj)=true
 Cm:mg "_law_way" = some (.ref A.qj)
 Dw:fX K "_law_spoken" "_law_spoken" cH A.jG A.nR
 tM:Binds K A.nR ["_law_names","_law_said"] []
 tO:W.keepIn K (.ref A.jG)=true
 tQ:mg "_law_spoken" = some (.ref A.jG)
 GC:fX K "_law_known" "_law_known" cY A.lL A.pq
 GD:Binds K A.pq ["_law_said","_law_spans_here"] []
 GF:W.keepIn K (.ref A.lL)=true
 GJ:mg "_law_known" = some (.ref A.lL)
 My:fX K "_law_led" "_law_led" dY A.ql A.uM
 Cp:Binds K A.uM ["_law_names","_law_sheet","_law_ways","_law_spans_here"] []
 Cq:W.keepIn K (.ref A.ql)=true
 Cr:mg "_law_led" = some (.ref A.ql)
 GK:fX K "_law_going" "_law_going" cZ A.lM A.pA
 GP:Binds K A.pA ["_law_names","_law_ways","_law_more","_law_spans_here"] []
 GQ:W.keepIn K (.ref A.lM)=true
 GR:mg "_law_going" = some (.ref A.lM)
 Ua:fX K "law" "law" tu A.Pr A.Pu
 aae:mg "law" = some (.ref A.Pr)
 uY:mg "WRITTEN_TRUTHS" = some (.ref A.mY)
 uZ:Vz K A.mY [("yes",true),("no",false)]
 aaf:mg "all" = none
 aag:mg "any" = none
 u0:mg "bool" = none
 VM:mg "dict" = none
 Ub:mg "int" = none
 aH:mg "isinstance" = none
 vN:mg "len" = none
 pH:mg "list" = none
 wW:mg "range" = none
 Uc:mg "str" = none
 KZ:mg "tuple" = none
 wA:W.kitOne K (.type "NoneType") (.type "bool")=some false
 lR:W.kitOne K (.type "bool") (.type "bool")=some true
 zc:W.kitOne K (.type "int") (.type "bool")=some false
 zf:W.kitOne K (.type "str") (.type "bool")=some false
 Mz:W.kitOne K (.type "int") (.type "int")=some true
 MF:W.kitOne K (.type "int") (.type "str")=some false
 Cu:W.kitOne K (.type "str") (.type "str")=some true
 wB:W.kitOne K (.type "NoneType") (.type "list")=some false
 GX:W.kitOne K (.type "bool") (.type "list")=some false
 JQ:W.kitOne K (.type "int") (.type "list")=some false
 JR:W.kitOne K (.type "str") (.type "list")=some false
 lU:W.kitOne K (.type "list") (.type "list")=some true
 jH:W.kitOne K (.type "tuple") (.type "list")=some false
 u5:W.kitOne K (.type "NoneType") (.type "tuple")=some false
 Dy:W.kitOne K (.type "bool") (.type "tuple")=some false
 GZ:W.kitOne K (.type "int") (.type "tuple")=some false
 G6:W.kitOne K (.type "str") (.type "tuple")=some false
 tR:W.kitOne K (.type "list") (.type "tuple")=some false
 qN:W.kitOne K (.type "tuple") (.type "tuple")=some true
 K4:mg "Ask" = some (.ref A.mZ)
 PK:xq mg "Ask" (.ref A.mZ)
 R7:mg "ByBox" = some (.ref A.au)
 Cv:mg "Compare" = some (.ref A.bZ)
 R8:mg "Going" = some (.ref A.KY)
 aah:mg "Is" = some (.ref A.m5)
 akd:xq mg "Is" (.ref A.m5)
 VN:mg "Kind" = some (.ref A.Px)
 R9:xq mg "Names" (.ref A.Dp)
 Ud:mg "Not" = some (.ref A.oh)
 Sd:mg "Paper" = some (.ref A.fZ)
 VP:xq mg "Pick" (.ref A.Jl)
 aai:mg "Row" = some (.ref A.T9)
 Dz:mg "Sheet" = some (.ref A.gb)
 Sh:mg "Whole" = some (.ref A.cI)
 Sq:xq mg "Whole" (.ref A.cI)
 DG:mg "YesNo" = some (.ref A.bj)
 Ss:xq mg "YesNo" (.ref A.bj)
 rN:W.kitOne K (.ref A.mZ) (.ref A.mZ)=some true
 zg:W.kitOne K (.ref A.bj) (.ref A.bj)=some true
 Bc:W.kitOne K (.ref A.bj) (.ref A.Jl)=some false
 zj:W.kitOne K (.ref A.cI) (.ref A.cI)=some true
 zm:W.kitOne K (.ref A.cI) (.ref A.Dp)=some false
 PL:W.kitOne K (.ref A.m5) (.ref A.m5)=some true
 Bd:W.kitOne K (.ref A.bZ) (.ref A.m5)=some false
 pI:Ak K A.bj
 PN:∀ (H:Hp) (a dx:Addr) (fs:List (Str × V)),H a=some (.ins A.bj dx fs)→aF K H (.ref a) (.ref A.bj)
 zp:Mk K A.bj A.iy
 Be:Meth K A.bj "fits" A.jV
 rO:Meth K A.bj "answer_of" A.fB
 Bf:Meth K A.bj "rank" A.jX
 tU:aX K A.bj "low"
 qO:aX K A.bj "high"
 G7:Ak K A.cI
 PQ:∀ (H:Hp) (a dx:Addr) (fs:List (Str × V)),H a=some (.ins A.cI dx fs)→aF K H (.ref a) (.ref A.cI)
 PX:Mk K A.cI A.fY
 tV:aX K A.cI "low"
 qP:aX K A.cI "high"
 pJ:Ak K A.mZ
 JS:∀ (H:Hp) (a dx:Addr) (fs:List (Str × V)),H a=some (.ins A.mZ dx fs)→aF K H (.ref a) (.ref A.mZ)
 DK:Mk K A.mZ A.j5
 lV:aX K A.mZ "name"
 vO:aX K A.mZ "kind"
 vP:aX K A.mZ "when"
 dR:Ak K A.gb
 zr:Mk K A.gb A.iB
 mJ:aX K A.gb "name"
 mK:aX K A.gb "each"
 jf:aX K A.gb "rows"
 qQ:aX K A.gb "ways"
 fU:Ak K A.fZ
 P0:Mk K A.fZ A.iD
 Bg:aX K A.fZ "name"
 cN:aX K A.fZ "sheets"
 oA:aX K A.fZ "totals"
 aA:Ak K A.au
 Qa:Mk K A.au A.iM
 rP:Meth K A.au "things_of" A.fO
 DN:Meth K A.au "put" A.mG
 zu:Meth K A.au "is_so" A.jy
 Bh:Meth K A.au "note" A.j8
 rQ:Meth K A.au "stop_with" A.fJ
 qH:Meth K A.au "go_through" A.eF
 qI:Meth K A.au "targets_of" A.eN
 zx:Meth K A.au "leave" A.jt
 G8:Meth K A.au "go" A.nA
 rR:Meth K A.au "own_thing" A.fG
 tW:Meth K A.au "known_of" A.gj
 u6:Meth K A.au "span_of" A.gR
 tX:Meth K A.au "split_at" A.gr
 tY:Meth K A.au "split_by" A.gA
 eQ:aX K A.au "paper"
 gW:aX K A.au "alone"
 kO:aX K A.au "kinds"
 oE:aX K A.au "eaches"
 gY:aX K A.au "together"
 eU:aX K A.au "asked"
 jJ:aX K A.au "log"
 iU:aX K A.au "doubles"
 cJ:aX K A.au "over"
 tZ:aX K A.au "box"
 eZ:aX K A.au "cutting"
 kW:Ak K A.m5
 aaj:∀ (H:Hp) (a dx:Addr) (fs:List (Str × V)),H a=some (.ins A.m5 dx fs)→aF K H (.ref a) (.ref A.m5)
 Ue:Mk K A.m5 A.mC
 Bj:Meth K A.m5 "settled" A.kj
 JT:Meth K A.m5 "sure" A.o6
 Hc:Meth K A.m5 "atoms" A.nF
 u9:Meth K A.m5 "first_open" A.cA
 kY:aX K A.m5 "name"
 rT:aX K A.m5 "word"
 pK:aX K A.m5 "place"
 bh:Ak K A.bZ
 JV:∀ (H:Hp) (a dx:Addr) (fs:List (Str × V)),H a=some (.ins A.bZ dx fs)→aF K H (.ref a) (.ref A.bZ)
 zy:Mk K A.bZ A.gn
 rU:Meth K A.bZ "settled" A.fL
 wC:Meth K A.bZ "sure" A.iJ
 vd:Meth K A.bZ "atoms" A.gP
 oH:Meth K A.bZ "first_open" A.cA
 du:aX K A.bZ "name"
 eV:aX K A.bZ "how"
 cM:aX K A.bZ "number"
 pL:Ak K A.oh
 Qc:Mk K A.oh A.kE
 zz:Meth K A.oh "settled" A.jw
 Hd:Meth K A.oh "sure" A.nH
 DP:Meth K A.oh "atoms" A.mD
 t7:Meth K A.oh "first_open" A.cA
 lW:aX K A.oh "test"
 Bk:KD K A.KY "__init__" A.iH
 DQ:KD K A.Px "__init__" A.fY
 Hf:KD K A.T9 "__init__" A.jZ
theorem vf:az ["self","low","high"] ["self","low","high"] (aa bJ):=⟨rfl,rfl,rfl,by symm,rfl,by symm,by symm⟩
theorem t8:az ["self"] ["self"] (aa bC):=⟨rfl,rfl,rfl,by symm,rfl,by symm,by symm⟩
theorem wD:az ["self","thing"] ["self","thing"] (aa bN):=⟨rfl,rfl,rfl,by symm,rfl,by symm,by symm⟩
theorem pM:az ["self","text"] ["self","text"] (aa aN):=⟨rfl,rfl,rfl,by symm,rfl,by symm,by symm⟩
theorem wF:az ["self","answer"] ["self","answer"] (aa bO):=⟨rfl,rfl,rfl,by symm,rfl,by symm,by symm⟩
theorem wG:az ["self","name"] ["self","name"] (aa bQ):=⟨rfl,rfl,rfl,by symm,rfl,by symm,by symm⟩
theorem wH:az ["self","name","kind","when"] ["self","name","kind","when"] (aa bR):=⟨rfl,rfl,rfl,by symm,rfl,by symm,by symm⟩
theorem ud:az ["self","name","each","rows","ways"] ["self","name","each","rows","ways"] (aa bD):=⟨rfl,rfl,rfl,by symm,rfl,by symm,by symm⟩
theorem ue:az ["self","name","sheets","totals"] ["self","name","sheets","totals"] (aa bF):=⟨rfl,rfl,rfl,by symm,rfl,by symm,by symm⟩
theorem lX:az ["paper","kinds","sheet","row"] ["paper"] (aa dw):=⟨rfl,rfl,rfl,by symm,rfl,by symm,by symm⟩
theorem jK:az ["paper","eaches","sheet","row"] ["paper"] (aa cT):=⟨rfl,rfl,rfl,by symm,rfl,by symm,by symm⟩
theorem wI:az ["paper"] ["paper"] (aa bT):=⟨rfl,rfl,rfl,by symm,rfl,by symm,by symm⟩
theorem uf:az ["self","paper","alone"] ["self","paper","alone"] (aa bG):=⟨rfl,rfl,rfl,by symm,rfl,by symm,by symm⟩
theorem wJ:az ["self","question","thing","known"] ["self","question","thing","known"] (aa bU):=⟨rfl,rfl,rfl,by symm,rfl,by symm,by symm⟩
theorem pN:az ["self","question","thing"] ["self","question","thing"] (aa aO):=⟨rfl,rfl,rfl,by symm,rfl,by symm,by symm⟩
theorem qJ:az ["self","question","thing"] ["self","question","thing"] (aa aY):=⟨rfl,rfl,rfl,by symm,rfl,by symm,by symm⟩
theorem pO:az ["self","row"] ["self","row"] (aa aP):=⟨rfl,rfl,rfl,by symm,rfl,by symm,by symm⟩
theorem ir:az ["self","sheet","thing","row"] ["self","sheet","thing"] (aa aJ):=⟨rfl,rfl,rfl,by symm,rfl,by symm,by symm⟩
theorem di:az ["self","sheet","targets","target","saying"] ["self","sheet"] (aa aK):=⟨rfl,rfl,rfl,by symm,rfl,by symm,by symm⟩
theorem fc:az ["self","place","sheet","targets","names"] ["self","place"] (aa bK):=⟨rfl,rfl,rfl,by symm,rfl,by symm,by symm⟩
theorem fV:az ["self","place","sheet","thing"] ["self"] (aa cD):=⟨rfl,rfl,rfl,by symm,rfl,by symm,by symm⟩
theorem Hg:az ["rank","how","number"] ["rank","how","number"] (aa dB):=⟨rfl,rfl,rfl,by symm,rfl,by symm,by symm⟩
theorem gH:az ["span","how","number","at_ends","between"] ["span","how","number"] (aa bz):=⟨rfl,rfl,rfl,by symm,rfl,by symm,by symm⟩
theorem gZ:az ["self","look","atom"] ["self","look"] (aa aD):=⟨rfl,rfl,rfl,by symm,rfl,by symm,by symm⟩
theorem z7:az ["self","name","word","place"] ["self","name","word","place"] (aa bV):=⟨rfl,rfl,rfl,by symm,rfl,by symm,by symm⟩
theorem Bl:az ["self"] ["self"] (aa cF):=⟨rfl,rfl,rfl,by symm,rfl,by symm,by symm⟩
theorem jz:az ["self","kinds","kind","answer"] ["self","kinds"] (aa bW):=⟨rfl,rfl,rfl,by symm,rfl,by symm,by symm⟩
theorem DR:az ["self","look"] ["self","look"] (aa cU):=⟨rfl,rfl,rfl,by symm,rfl,by symm,by symm⟩
theorem qK:az ["self","name","how","number"] ["self","name","how","number"] (aa aZ):=⟨rfl,rfl,rfl,by symm,rfl,by symm,by symm⟩
theorem rW:az ["self"] ["self"] (aa bA):=⟨rfl,rfl,rfl,by symm,rfl,by symm,by symm⟩
theorem pP:az ["self","kinds"] ["self","kinds"] (aa aQ):=⟨rfl,rfl,rfl,by symm,rfl,by symm,by symm⟩
theorem ug:az ["self","look"] ["self","look"] (aa bH):=⟨rfl,rfl,rfl,by symm,rfl,by symm,by symm⟩
theorem wK:az ["self","test"] ["self","test"] (aa bY):=⟨rfl,rfl,rfl,by symm,rfl,by symm,by symm⟩
theorem z8:az ["self"] ["self"] (aa cg):=⟨rfl,rfl,rfl,by symm,rfl,by symm,by symm⟩
theorem vg:az ["self","kinds"] ["self","kinds"] (aa bL):=⟨rfl,rfl,rfl,by symm,rfl,by symm,by symm⟩
theorem qR:az ["self","look","told"] ["self","look"] (aa cG):=⟨rfl,rfl,rfl,by symm,rfl,by symm,by symm⟩
theorem vQ:az ["box","kinds","question","k","kind"] ["box","kinds","question","k"] (aa dC):=⟨rfl,rfl,rfl,by symm,rfl,by symm,by symm⟩
theorem JW:az ["number","low"] ["number","low"] (aa dU):=⟨rfl,rfl,rfl,by symm,rfl,by symm,by symm⟩
theorem MJ:az ["atom","low"] ["atom","low"] (aa fQ):=⟨rfl,rfl,rfl,by symm,rfl,by symm,by symm⟩
theorem uh:az ["self","paper","box"] ["self","paper","box"] (aa bI):=⟨rfl,rfl,rfl,by symm,rfl,by symm,by symm⟩
theorem qL:az ["self","question","thing","cut"] ["self","question","thing","cut"] (aa bc):=⟨rfl,rfl,rfl,by symm,rfl,by symm,by symm⟩
theorem pQ:az ["self","sheet","span"] ["self","sheet"] (aa aR):=⟨rfl,rfl,rfl,by symm,rfl,by symm,by symm⟩
theorem z9:az ["self","question","thing"] ["self","question","thing"] (aa cj):=⟨rfl,rfl,rfl,by symm,rfl,by symm,by symm⟩
theorem rY:az ["self","name","thing","together","low","high","times","question","span","ends"] ["self","name","thing"] (aa bB):=⟨rfl,rfl,rfl,by symm,rfl,by symm,by symm⟩
theorem fj:az ["self","saying","thing","settled","look","told"] ["self","saying","thing"] (aa aG):=⟨rfl,rfl,rfl,by symm,rfl,by symm,by symm⟩
theorem jC:az ["self","atom","thing","low"] ["self","atom","thing"] (aa bf):=⟨rfl,rfl,rfl,by symm,rfl,by symm,by symm⟩
theorem vR:az ["paper","box","going"] ["paper","box"] (aa dD):=⟨rfl,rfl,rfl,by symm,rfl,by symm,by symm⟩
theorem Hh:az ["_law_script","_law_k"] ["_law_script","_law_k"] (aa dF):=⟨rfl,rfl,rfl,by symm,rfl,by symm,by symm⟩
theorem lY:az ["_law_script","_law_k","_law_some","_law_pad","_law_middle"] ["_law_script","_law_k"] (aa dG):=⟨rfl,rfl,rfl,by symm,rfl,by symm,by symm⟩
theorem DW:az ["_law_how","_law_low","_law_high","_law_number"] ["_law_how","_law_low","_law_high","_law_number"] (aa cV):=⟨rfl,rfl,rfl,by symm,rfl,by symm,by symm⟩
theorem JX:az ["_law_how","_law_low","_law_number"] ["_law_how","_law_low","_law_number"] (aa dW):=⟨rfl,rfl,rfl,by symm,rfl,by symm,by symm⟩
theorem um:az ["_law_found","_law_due","_law_k"] ["_law_found","_law_due"] (aa cW):=⟨rfl,rfl,rfl,by symm,rfl,by symm,by symm⟩
theorem jL:az ["_law_script","_law_cell_here","_law_low","_law_flags"] ["_law_script"] (aa cX):=⟨rfl,rfl,rfl,by symm,rfl,by symm,by symm⟩
theorem iV:az ["_law_cell_here","_law_spans_here","_law_aim","_law_kind","_law_low","_law_high","_law_number"] ["_law_cell_here","_law_spans_here"] (aa dX):=⟨rfl,rfl,rfl,by symm,rfl,by symm,by symm⟩
theorem mL:az ["_law_names","_law_said","_law_atom"] ["_law_names","_law_said"] (aa cH):=⟨rfl,rfl,rfl,by symm,rfl,by symm,by symm⟩
theorem uo:az ["_law_said","_law_spans_here","_law_found"] ["_law_said","_law_spans_here"] (aa cY):=⟨rfl,rfl,rfl,by symm,rfl,by symm,by symm⟩
theorem kZ:az ["_law_names","_law_sheet","_law_ways","_law_spans_here","_law_held","_law_aim","_law_said","_law_known_here"] ["_law_names","_law_sheet","_law_ways","_law_spans_here"] (aa dY):=⟨rfl,rfl,rfl,by symm,rfl,by symm,by symm⟩
theorem cR:az ["_law_names","_law_ways","_law_more","_law_spans_here","_law_log","_law_aim","_law_split","_law_doubles","_law_others"] ["_law_names","_law_ways","_law_more","_law_spans_here"] (aa cZ):=⟨rfl,rfl,rfl,by symm,rfl,by symm,by symm⟩
theorem iW:az ["_law_script","_law_names","_law_spans_here","_law_ways","_law_more","_law_aims","_law_first","_law_start","_law_led_here","_law_middle","_law_paper","_law_box"] ["_law_script"] (aa tu):=⟨rfl,rfl,rfl,by symm,rfl,by symm,by symm⟩
seal PE PT PW PA PS nU PG vX PI PO my jb An cL lC sJ uE PC vZ
local macro_rules | `(tactic| walk_at "rd1") => `(tactic| first
 | (refine And.intro rfl ?_)
 | (refine And.intro (by assumption) ?_)
 | (refine And.intro (fun _ e=>e) ?_)
 | (refine And.intro (aF.str _) ?_) | (refine And.intro (aF.int _) ?_) | (refine And.intro (aF.bl _) ?_) | (refine And.intro aF.non ?_)
 | (refine bM ?_) | (refine aW ?_)
 | (apply Exists.intro))
local macro_rules | `(tactic| walk_at "rd") => `(tactic| repeat (walk_at "rd1"))
theorem len_app (x y:Str):(x++y).length=x.length+y.length:=by rw [jQ,uF,List.length_append,← jQ,← jQ]
theorem uq {t u:TS}{D:Ends}{σ:St}{H:Hp} (R:St→Hp→Prop) (hk:∀ σ' H',R σ' H'→u D σ' H') (hm:∀ N:St→Hp→Prop,(∀ σ' H',R σ' H'→N σ' H')→t { D with nx:=N } σ H):Ri t u D σ H:=hm _ hk
theorem Qd (i:Int) (h0:0≤i) (h1:i<26):jc ("abcdefghijklmnopqrstuvwxyz":Str).cps.toList i=some (97+i.toNat):=by
 have e:("abcdefghijklmnopqrstuvwxyz":Str).cps.toList=(List.range 26).map (97+·):=by symm
 obtain⟨c,hc,hc2⟩:=wU (l:=("abcdefghijklmnopqrstuvwxyz":Str).cps.toList) h0 (by rw [e];simpa using h1)
 rw [hc]
 rw [e,List.getElem?_map,List.getElem?_range (by omega)] at hc2
 exact hc2.symm
theorem aak {x:Int} (h0:0≤x) (h:x<2 ^ 63):ib x≤60000000:=Nat.le_trans (Oi (by omega) (by omega)) (by decide)
theorem ibc {x:Int} (h:x.natAbs<2 ^ 256):ib x≤60000000:=Nat.le_trans (Vu (m:=256) h) (by decide)
theorem VR {c:Bool}{A B:Prop} (h:c=false) (k:B):if c=true then A else B:=by rw [if_neg (by rw [h];decide)];exact k
theorem DX {σ:St}{H:Hp}{a b:Hp→Prop} (h:a H):T5 σ H (fun c H3=>if c=true then a H3 else b H3):=by
 show if true=true then a H else b H
 exact bM h
theorem zJ {α β:Type}{R R':α→β→Prop}{as:List α}{bs:List β} (h:Paired R as bs) (f:∀ a b,R a b→R' a b):Paired R' as bs:=by
 induction h with
 | nil=>exact .nil
 | cons r _ ih=>exact .cons (f _ _ r) ih
theorem yW {α β:Type}{R:α→β→Prop}{as as':List α}{bs bs':List β} (h:Paired R as bs) (k:Paired R as' bs'):Paired R (as++as') (bs++bs'):=by
 induction h with
 | nil=>exact k
 | cons r _ ih=>exact .cons r ih
theorem yK {α β:Type}{R:α→β→Prop}:∀ {as:List α}{bs:List β}{i:Nat}{a:α},Paired R as bs→as[i]? = some a→∃ b,bs[i]? = some b∧R a b
 | _,_,0,_,.cons h _,e=>by cases e;exact⟨_,rfl,h⟩
 | _,_,i+1,_,.cons _ t,e=>yK (i:=i) t e
theorem rZ {α β:Type}{R:α→β→Prop}:∀ {as:List α}{bs:List β}{i:Nat}{b:β},Paired R as bs→bs[i]? = some b→∃ a,as[i]? = some a∧R a b
 | _,_,0,_,.cons h _,e=>by cases e;exact⟨_,rfl,h⟩
 | _,_,i+1,_,.cons _ t,e=>rZ (i:=i) t e
theorem zU {α β:Type}{R:α→β→Prop}{as:List α}{bs:List β} (h:Paired R as bs):as.length=bs.length:=Paired.length h
theorem take_snoc {α:Type}{l:List α}{i:Nat}{x:α} (h:l[i]? = some x):l.take (i+1)=l.take i++[x]:=by rw [List.take_succ,h];rfl
abbrev E40:Int:=10000000000000000000000000000000000000000
theorem p40:(10:Int) ^ (40:Int).toNat=E40:=by symm
def eY (ns:List Int) (k:Nat):Int:=if k<ns.length then ns.getD k 0 % E40 else 0
theorem K5 (ns:List Int) (k:Nat):0≤eY ns k∧eY ns k<E40:=by
 unfold eY
 split
 · exact⟨Int.emod_nonneg _ (by decide),Int.emod_lt_of_pos _ (by decide)⟩
 · exact⟨by decide,by decide⟩
def V0 (K:W.Frag):Sp:=fun vs H Q _=>∃ (a:Addr) (ns:List Int) (k:Nat),vs=[.ref a,.int k]∧b7 K H a (ns.map V.int)∧Q (.int (eY ns k)) H
section
variable {P:Program}{w:World}{K:W.Frag}{mg:Str→Option Value}{base:Heap}{A:cQ}
theorem pR (T:Txt K mg A):bw P w K mg base b8 1 A.nP A.rC ["_law_script","_law_k"] (V0 K):=by
 refine T.JG.ok Hh (fun vs H Q E h=>?_) (fun cdv A0 outer s H vs Q E hr h=>?_)
 · obtain⟨a,ns,k,rfl,_⟩:=h
   rfl
 obtain⟨a,ns,k,rfl,hS,q⟩:=h
 refine⟨_,(zC (yA (zO sE (pv 1) (zY yU (by rfl) T.vN PySem.boot_len (zA (pv 0) zD)) (zQ _)) (zE (zN (zV xD (zW aV (pv 0) (pv 1) (fun _ _=>rfl)) (zV CT zG zG)))) zR)
     (zE (zN zG))),?_⟩
 have eL:((ns.map V.int).length:Nat)=ns.length:=List.length_map ..
 refine⟨_,rfl,_,rfl,a,_,rfl,.inl hS,_,_,rfl,rfl,_,rfl,?_⟩
 refine mW (fun c=>?_) (fun c=>?_)
 · have c':(k:Int)<((ns.map V.int).length:Nat):=of_decide_eq_true c
   have c2:k<ns.length:=by rw [eL] at c';omega
   obtain⟨v,hv,hv2⟩:=wU (l:=ns.map V.int) (i:=(k:Int)) (by omega) c'
   obtain⟨n,hn,rfl⟩:=sV hv2
   have e:eY ns k=n % E40:=by
     unfold eY
     rw [if_pos c2,List.getD_eq_getElem?_getD,show ns[k]? = some n from hn]
     rfl
   rw [e] at q
   refine⟨_,rfl,_,rfl,a,_,_,_,rfl,rfl,hS,hv,_,_,rfl,rfl,⟨by decide,by decide,by symm⟩,_,_,rfl,rfl,?_,?_⟩
   · show (0:Int)<(10:Int) ^ (40:Int).toNat
     rw [p40];decide
   · show Q (.int (n % (10:Int) ^ (40:Int).toNat)) H
     rw [p40];exact q
 · have c2:¬ k<ns.length:=fun z=>c (decide_eq_true (by rw [eL];omega))
   unfold eY at q
   rw [if_neg c2] at q
   exact q
end
def Yq (p:Int) (k:Nat):Str:=S (jR [120] (p % 4).toNat)++(S [97+(((k:Int)*5+p / 20) % 26).toNat]++S [97+k])++S (jR [121] (p / 4 % 5).toNat)
theorem Qe (l:List Nat) (p:Int) (m:Nat) (h:p.toNat≤m) (hl:l.length=1):(jR l p.toNat).length≤m:=by rw [xx,hl];omega
theorem Ug (p:Int) (k:Nat):cd (Yq p k)=jR [120] (p % 4).toNat++([97+(((k:Int)*5+p / 20) % 26).toNat]++[97+k])++jR [121] (p / 4 % 5).toNat:=by
 unfold Yq
 rw [uF,uF,uF]
 rfl
theorem V1 {p:Int}{j k:Nat} (e:Yq p j=Yq p k):j=k:=by
 have e2:=congrArg cd e
 rw [Ug,Ug,List.append_assoc,List.append_assoc,List.append_assoc,List.append_assoc] at e2
 have e3:=List.append_cancel_left e2
 have e4:=(List.cons.inj (List.cons.inj e3).2).1
 omega
def V2 (K:W.Frag):Sp:=fun vs H Q _=>∃ (a:Addr) (ns:List Int) (k:Nat),vs=[.ref a,.int k]∧b7 K H a (ns.map V.int)∧k<26∧Q (.str (Yq (eY ns 0) k)) H
section
variable {P:Program}{w:World}{K:W.Frag}{mg:Str→Option Value}{base:Heap}{A:cQ}
theorem Hi (T:Txt K mg A):bw P w K mg base b8 2 A.nQ A.rD ["_law_script","_law_k"] (V2 K):=by
 have dM:=pR (P:=P) (w:=w) (base:=base) T
 refine T.JH.ok lY (fun vs H Q E h=>?_) (fun cdv A0 outer s H vs Q E hr h=>?_)
 · obtain⟨a,ns,k,rfl,_⟩:=h
   rfl
 obtain⟨a,ns,k,rfl,hS,hk,q⟩:=h
 refine⟨_,(zC (zX (i:=2) lY.nd rfl ‹0› yB)
     (zC (zX (i:=3) lY.nd rfl ‹0› (zZ dM ‹hr› rfl T.gG T.gD T.gC .nil zT (zA (pv 0) (zA zG zD))))
     (zC (zX (i:=4) lY.nd rfl ‹0› (zV qU (zW N8 (pv 2) (zV xD (zV mz (zV Df (pv 1) zG) (zV xO (pv 3) zG)) zG) (fun _ _=>rfl)) (zW N8 (pv 2) (pv 1) (fun _ _=>rfl))))
     (zE (zN (zV qU (zV qU (zV xT yB (zV xD (pv 3) zG)) (pv 4)) (zV xT yB (zV xD (zV xO (pv 3) zG) zG)))))))),?_⟩
 refine⟨_,rfl,a,ns,0,rfl,hS,?_⟩
 generalize eY ns 0=p at q
 have a0:=Int.emod_nonneg p (b:=4) (by decide)
 have a1:=Int.emod_lt_of_pos p (b:=4) (by decide)
 have b0:=Int.emod_nonneg (p / 4) (b:=5) (by decide)
 have b1:=Int.emod_lt_of_pos (p / 4) (b:=5) (by decide)
 have d0:=Int.emod_nonneg ((k:Int)*5+p / 20) (b:=26) (by decide)
 have d1:=Int.emod_lt_of_pos ((k:Int)*5+p / 20) (b:=26) (by decide)
 have r1:=Qe [120] (p % 4) 4 (by omega) rfl
 have r2:=Qe [121] (p / 4 % 5) 5 (by omega) rfl
 have l1:(S (jR (cd ‹"x"›) (p % 4).toNat)).length≤4:=by rw [jQ,Vt];exact r1
 have l2:(S (jR (cd ‹"y"›) (p / 4 % 5).toNat)).length≤5:=by rw [jQ,Vt];exact r2
 have lx:‹"x"›.length=1:=by symm
 have ly:‹"y"›.length=1:=by symm
 have lz:("abcdefghijklmnopqrstuvwxyz":Str).length=26:=by symm
 have c0:=Qd (((k:Int)*5+p / 20) % 26) d0 d1
 have c1:=Qd (k:Int) (by omega) (by omega)
 have ls:∀ c:Nat,(⟨#[c]⟩:Str).length=1:=fun c=>rfl
 refine⟨_,rfl,_,rfl,_,_,rfl,rfl,⟨aak (by omega) (by omega),aak (by decide) (by decide)⟩,_,rfl,_,_,rfl,rfl,⟨by decide,by decide⟩,_,_,rfl,rfl,_,_,rfl,rfl,(by show (0:Int)<26;decide),_,_,_,rfl,rfl,(by rw [lz,sizeLine_eq];omega),c0,?_⟩
 refine⟨_,rfl,_,rfl,_,_,_,rfl,rfl,(by rw [lz,sizeLine_eq];omega),c1,_,_,rfl,rfl,(by rw [sizeLine_eq];rw [ls,ls];decide),?_⟩
 have e1:(97+(k:Int).toNat)=97+k:=by omega
 rw [e1]
 generalize hc:97+(((k:Int)*5+p / 20) % 26).toNat=cc
 have q':Q (.str (S (jR [120] (p % 4).toNat)++(S [cc]++S [97+k])++S (jR [121] (p / 4 % 5).toNat))) H:=by rw [← hc];exact q
 refine⟨_,rfl,_,_,rfl,rfl,(by show (0:Int)<4;decide),_,_,rfl,rfl,a0,(by omega),(by rw [lx];omega),(by rw [lx];omega),?_⟩
 refine⟨_,rfl,_,_,rfl,rfl,(by rw [sizeLine_eq,len_app,ls,ls];omega),?_⟩
 refine⟨_,rfl,_,_,rfl,rfl,⟨by decide,by decide⟩,_,_,rfl,rfl,(by show (0:Int)<5;decide),_,_,rfl,rfl,b0,(by omega),(by rw [ly];omega),(by rw [ly];omega),?_⟩
 exact⟨_,_,rfl,rfl,(by rw [sizeLine_eq,len_app,len_app,ls,ls];omega),q'⟩
end
theorem m6 {H:Hp}{a b:Addr}{o:HO} (h:upd H a o b=none):b≠a∧H b=none:=by
 by_cases e:b=a
 · subst e;rw [zB] at h;cases h
 · exact⟨e,by rw [zI e] at h;exact h⟩
theorem yM {H H':Hp} (s:aB H H') {b:Addr} (h:H' b=none):H b=none:=by
 cases e:H b with
 | none=>rfl
 | some o=>rw [s b o e] at h;cases h
def Fr (M:List Addr) (H H':Hp):Prop:=∀ b o,H b=some o→b∉M→H' b=some o
theorem Fr.of {M:List Addr}{H H':Hp} (s:aB H H'):Fr M H H':=fun b o h _=>s b o h
theorem Fr.trans {M:List Addr}{H H' HY:Hp} (a:Fr M H H') (b:Fr M H' HY):Fr M H HY:=fun x o h n=>b x o (a x o h n) n
theorem Fr.upd {M:List Addr}{H H':Hp} (a:Fr M H H') {m:Addr} (h:m∈M) (o:HO):Fr M H (upd H' m o):=fun x u hx n=>by
 rw [zI (fun e=>n (by rw [e];exact h))];exact a x u hx n
theorem Fr.new {M:List Addr}{H H':Hp} (a:Fr M H H') {m:Addr} (h:H' m=none) (o:HO):Fr M H (L2.upd H' m o):=fun x u hx n=>by
 have:=a x u hx n
 rw [zI (zH this h)];exact this
theorem Fr.more {M M':List Addr}{H H':Hp} (a:Fr M H H') (h:∀ m∈M,m∈M'):Fr M' H H':=fun x u hx n=>a x u hx fun e=>n (h x e)
theorem DY {M:List Addr}{H H':Hp} (a:Fr M H H') {b:Addr} (n:b∉M) (h:H' b=none):H b=none:=by
 cases e:H b with
 | none=>rfl
 | some o=>rw [a b o e n] at h;cases h
theorem oJ {x a:Addr} (h:x≠a):x∉[a]:=fun e=>h (List.mem_singleton.mp e)
abbrev oM (A:cQ) (dx:Addr) (u1 u2 u3:V):HO:=.ins A.mZ dx [("name",u1),("kind",u2),("when",u3)]
abbrev oSh (A:cQ) (dx:Addr) (u1 u2:V) (q1 q2:Addr):HO:=.ins A.gb dx [("name",u1),("each",u2),("rows",.ref q1),("ways",.ref q2)]
abbrev oPa (A:cQ) (dx:Addr) (u1:V) (q1 q2:Addr):HO:=.ins A.fZ dx [("name",u1),("sheets",.ref q1),("totals",.ref q2)]
def V3 (K:W.Frag):Sp:=fun vs H Q _=>∃ p C dx u1,vs=[.ref p,u1]∧H p=some (.ins C dx [])∧Ak K C∧aX K C "name"∧Q .non (upd H p (.ins C dx [("name",u1)]))
def V4 (A:cQ):Sp:=fun vs H Q _=>∃ p dx u1 u2 u3,vs=[.ref p,u1,u2,u3]∧H p=some (.ins A.mZ dx [])∧Q .non (upd H p (oM A dx u1 u2 u3))
def Qf (A:cQ) (K:W.Frag):Sp:=fun vs H Q _=>∃ p dx u1 u2 l1 l2 xs ys,vs=[.ref p,u1,u2,.ref l1,.ref l2]∧H p=some (.ins A.gb dx [])∧H l1=some (.lst xs)∧H l2=some (.lst ys) ∧
 ∀ q1 q2 H',q1≠q2→H q1=none→H q2=none→Fr [p] H H'→H' p=some (oSh A dx u1 u2 q1 q2)→H' q1=some (.lst xs)→H' q2=some (.lst ys)→Q .non H'
def Qg (A:cQ) (K:W.Frag):Sp:=fun vs H Q _=>∃ p dx u1 l1 l2 xs,vs=[.ref p,u1,.ref l1,.ref l2]∧H p=some (.ins A.fZ dx [])∧H l1=some (.lst xs)∧H l2=some (.lst []) ∧
 ∀ q1 q2 H',Fr [p] H H'→H' p=some (oPa A dx u1 q1 q2)→H' q1=some (.lst xs)→H' q2=some (.lst [])→Q .non H'
def V5 (K:W.Frag):Sp:=fun vs H Q _=>∃ p C dx lo hi,vs=[.ref p,lo,hi]∧H p=some (.ins C dx [])∧Ak K C∧aX K C "low"∧aX K C "high"∧Q .non (upd H p (.ins C dx [("low",lo),("high",hi)]))
def V6 (A:cQ):Sp:=fun vs H Q _=>∃ p dx,vs=[.ref p]∧H p=some (.ins A.bj dx [])∧Q .non (upd H p (.ins A.bj dx [("low",.int 0),("high",.int 1)]))
def aal (A:cQ):Sp:=fun vs H Q _=>∃ p dx u1 u2 u3,vs=[.ref p,u1,u2,u3]∧H p=some (.ins A.m5 dx [])∧Q .non (upd H p (.ins A.m5 dx [("name",u1),("word",u2),("place",u3)]))
def aam (A:cQ):Sp:=fun vs H Q _=>∃ p dx u1,vs=[.ref p,u1]∧H p=some (.ins A.oh dx [])∧Q .non (upd H p (.ins A.oh dx [("test",u1)]))
def aan (A:cQ):Sp:=fun vs H Q _=>∃ p dx u1 u2 u3,vs=[.ref p,u1,u2,u3]∧H p=some (.ins A.bZ dx [])∧Q .non (upd H p (.ins A.bZ dx [("name",u1),("how",u2),("number",u3)]))
abbrev YN:List (Str × Bool):=[("yes",true),("no",false)]
def bv:Option Bool→V
 | none=>.non
 | some b=>.bl b
def Uh (b:Bool):Int:=if b=true then 1 else 0
def V7:Sp:=fun vs H Q _=>∃ (p:V) (o:Option Bool),vs=[p,bv o]∧Q (.bl o.isSome) H
def V8:Sp:=fun vs H Q _=>∃ (p:V) (z:Str),vs=[p,.str z]∧Q (xV YN z) H
def Su:Sp:=fun vs H Q _=>∃ (p:V) (b:Bool),vs=[p,.bl b]∧Q (.int (if b=true then 1 else 0)) H
section
variable {P:Program}{w:World}{K:W.Frag}{mg:Str→Option Value}{base:Heap}{A:cQ}
theorem ur (T:Txt K mg A):bw P w K mg base b8 1 A.fY A.jq ["self","low","high"] (V5 K):=by
 refine T.v9.ok vf (fun vs H Q E h=>?_) (fun cdv A0 outer s H vs Q E hr h=>?_)
 · obtain⟨p,C,dx,lo,hi,rfl,_⟩:=h
   rfl
 obtain⟨p,C,dx,lo,hi,rfl,hp,cl,n1,n2,q⟩:=h
 refine⟨_,(zC (yG (pv 0) (pv 1) rfl)
     (zE (yG (pv 0) (pv 2) rfl))),?_⟩
 refine⟨_,rfl,_,rfl,p,C,dx,_,rfl,hp,cl,n1,by decide,?_⟩
 refine⟨_,rfl,_,rfl,p,C,dx,_,rfl,zB,cl,n2,(by show 1<1000;decide),?_⟩
 rw [yH]
 exact q
theorem Hj (T:Txt K mg A):bw P w K mg base b8 1 A.jZ A.j4 ["self","name"] (V3 K):=by
 refine T.yj.ok wG (fun vs H Q E h=>?_) (fun cdv A0 outer s H vs Q E hr h=>?_)
 · obtain⟨p,C,dx,u1,rfl,_⟩:=h
   rfl
 obtain⟨p,C,dx,u1,rfl,hp,cl,na,q⟩:=h
 refine⟨_,(zE (yG (pv 0) (pv 1) rfl)),?_⟩
 exact⟨_,rfl,_,rfl,p,_,dx,_,rfl,hp,cl,na,by decide,q⟩
theorem Hk (T:Txt K mg A):bw P w K mg base b8 3 A.j5 A.j6 ["self","name","kind","when"] (V4 A):=by
 have Aa:=Hj (P:=P) (w:=w) (base:=base) T
 refine T.ym.ok wH (fun vs H Q E h=>?_) (fun cdv A0 outer s H vs Q E hr h=>?_)
 · obtain⟨p,dx,u1,u2,u3,rfl,_⟩:=h
   rfl
 obtain⟨p,dx,u1,u2,u3,rfl,hp,q⟩:=h
 refine⟨_,(zC (yQ (xU T.Hf Aa ‹hr› rfl T.aai T.yl zT (zA (pv 0) (zA (pv 1) zD))))
     (zC (yG (pv 0) (pv 2) rfl)
     (zE (yG (pv 0) (pv 3) rfl)))),?_⟩
 refine⟨_,rfl,_,rfl,p,_,dx,u1,rfl,hp,T.pJ,T.lV,?_⟩
 refine⟨_,rfl,_,rfl,p,_,dx,_,rfl,zB,T.pJ,T.vO,(by show 1<1000;decide),?_⟩
 refine⟨_,rfl,_,rfl,p,_,dx,_,rfl,zB,T.pJ,T.vP,(by show 2<1000;decide),?_⟩
 rw [yH,yH]
 exact q
theorem Bm (T:Txt K mg A):bw P w K mg base b8 1 A.iB A.iC ["self","name","each","rows","ways"] (Qf A K):=by
 refine T.uO.ok ud (fun vs H Q E h=>?_) (fun cdv A0 outer s H vs Q E hr h=>?_)
 · obtain⟨p,dx,u1,u2,l1,l2,xs,ys,rfl,_⟩:=h
   rfl
 obtain⟨p,dx,u1,u2,l1,l2,xs,ys,rfl,hp,h1,h2,q⟩:=h
 refine⟨_,(zC (yG (pv 0) (pv 1) rfl)
     (zC (yG (pv 0) (pv 2) rfl)
     (zC (yG (pv 0) (jN jF (by rfl) T.pH Bt.list (zA (pv 3) zD)) rfl)
     (zE (yG (pv 0) (jN jF (by rfl) T.pH Bt.list (zA (pv 4) zD)) rfl))))),?_⟩
 have n1:l1≠p:=yP h1 hp (by intro z;cases z)
 have n2:l2≠p:=yP h2 hp (by intro z;cases z)
 refine⟨_,rfl,_,rfl,p,_,dx,_,rfl,hp,T.dR,T.mJ,by decide,?_⟩
 refine⟨_,rfl,_,rfl,p,_,dx,_,rfl,zB,T.dR,T.mK,(by show 1<1000;decide),?_⟩
 rw [yH]
 refine⟨_,rfl,l1,xs,rfl,.inl (b7.of (by rw [zI n1];exact h1)),fun q1 hq1=>?_⟩
 obtain⟨e1,f1⟩:=m6 hq1
 refine⟨_,rfl,p,_,dx,_,rfl,(by rw [zI (Ne.symm e1)];exact zB),T.dR,T.jf,(by show 2<1000;decide),?_⟩
 refine⟨_,rfl,l2,ys,rfl,.inl (b7.of (by rw [zI n2,zI (zH h2 f1),zI n2];exact h2)),fun q2 hq2=>?_⟩
 obtain⟨e2,g2⟩:=m6 hq2
 obtain⟨e3,g3⟩:=m6 g2
 obtain⟨e4,f2⟩:=m6 g3
 refine⟨_,rfl,p,_,dx,_,rfl,(by rw [zI (Ne.symm e2)];exact zB),T.dR,T.qQ,(by show 3<1000;decide),?_⟩
 refine q q1 q2 _ (Ne.symm e3) f1 f2 (fun b o hb hn=>?_) zB ?_ ?_
 · have nb:b≠p:=fun e=>hn (by rw [e];exact List.mem_singleton.mpr rfl)
   rw [zI nb,zI (zH hb f2),zI nb,zI (zH hb f1),zI nb];exact hb
 · rw [zI e1,zI (Ne.symm e3),zI e1];exact zB
 · rw [zI e2];exact zB
theorem Bo (T:Txt K mg A):bw P w K mg base b8 1 A.iD A.iG ["self","name","sheets","totals"] (Qg A K):=by
 refine T.uP.ok ue (fun vs H Q E h=>?_) (fun cdv A0 outer s H vs Q E hr h=>?_)
 · obtain⟨p,dx,u1,l1,l2,xs,rfl,_⟩:=h
   rfl
 obtain⟨p,dx,u1,l1,l2,xs,rfl,hp,h1,h2,q⟩:=h
 refine⟨_,(zC (yG (pv 0) (pv 1) rfl)
     (zC (yG (pv 0) (jN jF (by rfl) T.pH Bt.list (zA (pv 2) zD)) rfl)
     (zE (yG (pv 0) (xW (jT (xC (x:="total") (M:=["self","name","sheets","totals"]) rfl (by rfl)) (by rfl) (by symm)) rfl (xA (pv 3)) (fun _ _ _ _=>oY) (fun _ _ _ _=>Dk (by exact (yC (zA (pv 0) (zA (jN jF (by rfl) T.pH Bt.list (zA (pv 1) zD)) zD)))) (by dsimp only [cB] <;> rfl))) rfl)))),?_⟩
 have n1:l1≠p:=yP h1 hp (by intro z;cases z)
 have n2:l2≠p:=yP h2 hp (by intro z;cases z)
 refine⟨_,rfl,_,rfl,p,_,dx,_,rfl,hp,T.fU,T.Bg,by decide,?_⟩
 refine⟨_,rfl,l1,xs,rfl,.inl (b7.of (by rw [zI n1];exact h1)),fun q1 hq1=>?_⟩
 obtain⟨e1,f1⟩:=m6 hq1
 refine⟨_,rfl,p,_,dx,_,rfl,(by rw [zI (Ne.symm e1)];exact zB),T.fU,T.cN,(by show 1<1000;decide),?_⟩
 generalize hG:upd (upd (upd H p (.ins A.fZ dx (m9 ‹"name"› u1 []))) q1 (.lst xs)) p (.ins A.fZ dx (m9 ‹"sheets"› (V.ref q1) (m9 ‹"name"› u1 [])))=H1
 have F1:Fr [p] H H1:=by rw [← hG];exact (((Fr.of (aB.refl _)).upd (List.mem_singleton.mpr rfl) _).new hq1 _).upd (List.mem_singleton.mpr rfl) _
 have hp1:H1 p=some (.ins A.fZ dx [("name",u1),("sheets",.ref q1)]):=by rw [← hG];exact zB
 have ake:H1 q1=some (.lst xs):=by rw [← hG,zI e1];exact zB
 have hl2:H1 l2=some (.lst []):=F1 _ _ h2 (oJ n2)
 refine⟨_,rfl,l2,rfl,⟨_,b7.of hl2⟩,?_⟩
 refine jU (xs:=[]) (Nat.zero_le _) (fun i zs H'=>H1=H'∧zs=[]) ⟨rfl,rfl⟩ (fun i zs H' hw=>by obtain⟨rfl,_⟩:=hw;exact b7.of hl2) (fun i x zs H' hx hlen hw=>by simp at hx) (fun zs H' hw p2 hp2=>?_)
 obtain⟨rfl,rfl⟩:=hw
 have s2:=zF hp2 (.lst [])
 have np2:p2≠p:=fun e=>by rw [e,hp1] at hp2;cases hp2
 refine⟨_,rfl,p,_,dx,_,rfl,s2 _ _ hp1,T.fU,T.oA,(by show 2<1000;decide),?_⟩
 have F2:Fr [p] H1 (upd (upd H1 p2 (.lst [])) p (oPa A dx u1 q1 p2)):=(Fr.of s2).upd (List.mem_singleton.mpr rfl) _
 refine q q1 p2 _ (F1.trans F2) zB (F2 _ _ ake (oJ e1)) ?_
 show (upd (upd H1 p2 (.lst [])) p (oPa A dx u1 q1 p2)) p2=_
 rw [zI np2];exact zB
theorem Hl (T:Txt K mg A):bw P w K mg base b8 3 A.iy A.iz ["self"] (V6 A):=by
 have jA:=ur (P:=P) (w:=w) (base:=base) T
 refine T.uN.ok t8 (fun vs H Q E h=>?_) (fun cdv A0 outer s H vs Q E hr h=>?_)
 · obtain⟨p,dx,rfl,_⟩:=h
   rfl
 obtain⟨p,dx,rfl,hp,q⟩:=h
 refine⟨_,(zE (yQ (xU T.DQ jA ‹hr› rfl T.VN T.ou zT (zA (pv 0) (zA zG (zA zG zD)))))),?_⟩
 exact⟨_,rfl,p,_,dx,_,_,rfl,hp,T.pI,T.tU,T.qO,q⟩
theorem Ab (T:Txt K mg A):bw P w K mg base b8 1 A.mC A.je ["self","name","word","place"] (aal A):=by
 refine T.Aw.ok z7 (fun vs H Q E h=>?_) (fun cdv A0 outer s H vs Q E hr h=>?_)
 · obtain⟨p,dx,u1,u2,u3,rfl,_⟩:=h
   rfl
 obtain⟨p,dx,u1,u2,u3,rfl,hp,q⟩:=h
 refine⟨_,(zC (yG (pv 0) (pv 1) rfl)
     (zC (yG (pv 0) (pv 2) rfl)
     (zE (yG (pv 0) (pv 3) rfl)))),?_⟩
 refine⟨_,rfl,_,rfl,p,_,dx,_,rfl,hp,T.kW,T.kY,by decide,?_⟩
 refine⟨_,rfl,_,rfl,p,_,dx,_,rfl,zB,T.kW,T.rT,(by show 1<1000;decide),?_⟩
 refine⟨_,rfl,_,rfl,p,_,dx,_,rfl,zB,T.kW,T.pK,(by show 2<1000;decide),?_⟩
 rw [yH,yH]
 exact q
theorem Ac (T:Txt K mg A):bw P w K mg base b8 1 A.gn A.gq ["self","name","how","number"] (aan A):=by
 refine T.rG.ok qK (fun vs H Q E h=>?_) (fun cdv A0 outer s H vs Q E hr h=>?_)
 · obtain⟨p,dx,u1,u2,u3,rfl,_⟩:=h
   rfl
 obtain⟨p,dx,u1,u2,u3,rfl,hp,q⟩:=h
 refine⟨_,(zC (yG (pv 0) (pv 1) rfl)
     (zC (yG (pv 0) (pv 2) rfl)
     (zE (yG (pv 0) (pv 3) rfl)))),?_⟩
 refine⟨_,rfl,_,rfl,p,_,dx,_,rfl,hp,T.bh,T.du,by decide,?_⟩
 refine⟨_,rfl,_,rfl,p,_,dx,_,rfl,zB,T.bh,T.eV,(by show 1<1000;decide),?_⟩
 refine⟨_,rfl,_,rfl,p,_,dx,_,rfl,zB,T.bh,T.cM,(by show 2<1000;decide),?_⟩
 rw [yH,yH]
 exact q
theorem Ad (T:Txt K mg A):bw P w K mg base b8 1 A.kE A.kI ["self","test"] (aam A):=by
 refine T.zb.ok wK (fun vs H Q E h=>?_) (fun cdv A0 outer s H vs Q E hr h=>?_)
 · obtain⟨p,dx,u1,rfl,_⟩:=h
   rfl
 obtain⟨p,dx,u1,rfl,hp,q⟩:=h
 refine⟨_,(zE (yG (pv 0) (pv 1) rfl)),?_⟩
 exact⟨_,rfl,_,rfl,p,_,dx,_,rfl,hp,T.pL,T.lW,by decide,q⟩
theorem Qh (T:Txt K mg A):bw P w K mg base b8 1 A.jV A.jW ["self","thing"] V7:=by
 refine T.ye.ok wD (fun vs H Q E h=>?_) (fun cdv A0 outer s H vs Q E hr h=>?_)
 · obtain⟨p,o,rfl,_⟩:=h
   rfl
 obtain⟨p,o,rfl,q⟩:=h
 cases o with
 | some b=>exact⟨_,(zE (zN (zY yS (by rfl) T.aH Bt.isinstance (zA (pv 1) (zA (yZ (v:=.ty "bool") rfl T.u0 Bt.bool rfl) zD))))),_,rfl,_,_,_,_,rfl,rfl,.old (.bl _),T.lR,q⟩
 | none=>exact⟨_,(zE (zN (zY yS (by rfl) T.aH Bt.isinstance (zA (pv 1) (zA (yZ (v:=.ty "bool") rfl T.u0 Bt.bool rfl) zD))))),_,rfl,_,_,_,_,rfl,rfl,.old .non,T.wA,q⟩
theorem Sv (T:Txt K mg A):bw P w K mg base b8 1 A.fB A.fD ["self","text"] V8:=by
 refine T.qt.ok pM (fun vs H Q E h=>?_) (fun cdv A0 outer s H vs Q E hr h=>?_)
 · obtain⟨p,z,rfl,_⟩:=h
   rfl
 obtain⟨p,z,rfl,q⟩:=h
 exact⟨_,(zE (zN (RP rfl T.uY T.uZ (pv 1) ⟨rfl,rfl,rfl,rfl⟩))),_,rfl,z,rfl,q⟩
theorem Qi (T:Txt K mg A):bw P w K mg base b8 1 A.jX A.jY ["self","answer"] Su:=by
 refine T.yg.ok wF (fun vs H Q E h=>?_) (fun cdv A0 outer s H vs Q E hr h=>?_)
 · obtain⟨p,b,rfl,_⟩:=h
   rfl
 obtain⟨p,b,rfl,q⟩:=h
 refine⟨_,(zE (zN (oR (yO (pv 1)) zG zG))),?_⟩
 cases b with
 | true=>exact⟨_,rfl,_,rfl,bM q⟩
 | false=>exact⟨_,rfl,_,rfl,aW q⟩
def JF (T:Txt K mg A):dj P w K mg base b8 4 A.bj "fits":=⟨_,_,_,_,[],[],T.pI,T.Be,(Qh T).mono (by decide),T.yf,.nil⟩
def JAn (T:Txt K mg A):dj P w K mg base b8 4 A.bj "answer_of":=⟨_,_,_,_,[],[],T.pI,T.rO,(Sv T).mono (by decide),T.qu,.nil⟩
def JK (T:Txt K mg A):dj P w K mg base b8 4 A.bj "rank":=⟨_,_,_,_,[],[],T.pI,T.Bf,(Qi T).mono (by decide),T.yh,.nil⟩
end
abbrev Nm:=Nat→Str
inductive At where
 | is (w:Bool) | cmp (h:Str) (m:Int)
abbrev Sy:=At × Bool
abbrev Sg:=Option Sy
structure Rw where
 nm:Str
 lo:Int
 hi:Int
 wh:Bool
abbrev Wy:=Nat × Sg
abbrev mR:=Str × List Rw × List Wy
def Pl:HO→Prop
 | .lD _=>False
 | .own _=>False
 | .qp _ _=>False
 | .ins _ _ []=>False
 | _=>True
def Kq (H H':Hp):Prop:=∀ b o,H b=some o→Pl o→H' b=some o
theorem Kq.of {H H':Hp} (s:aB H H'):Kq H H':=fun b o h _=>s b o h
theorem Kq.trans {H H1 H2:Hp} (a:Kq H H1) (b:Kq H1 H2):Kq H H2:=fun x o h p=>b x o (a x o h p) p
def pl (f:Bool) (i:Int):V:=if f=true then .int i else .non
abbrev oIs (A:cQ) (dx:Addr) (n w:Str) (p:V):HO:=.ins A.m5 dx [("name",.str n),("word",.str w),("place",p)]
abbrev Ui (A:cQ) (dx:Addr) (n h:Str) (m:Int):HO:=.ins A.bZ dx [("name",.str n),("how",.str h),("number",.int m)]
abbrev Yr (A:cQ) (dx:Addr) (b:Addr):HO:=.ins A.oh dx [("test",.ref b)]
abbrev oK (A:cQ) (dk:Addr) (r:Rw):HO:=.ins (if r.wh=true then A.cI else A.bj) dk [("low",.int r.lo),("high",.int r.hi)]
def V9 (b:Bool):Str:=if b=true then ‹"yes"› else ‹"no"›
def At.i:At→Nat
 | .is _=>1
 | .cmp _ _=>0
def atO (A:cQ) (N:Nm) (f:Bool) (dx:Addr):At→HO
 | .is w=>oIs A dx (N 1) (V9 w) (pl f (Uh w))
 | .cmp h m=>Ui A dx (N 0) h m
def Bp (A:cQ) (N:Nm) (H:Hp) (f:Bool) (a:Addr) (t:At):Prop:=∃ dx,H a=some (atO A N f dx t)
def K6 (A:cQ) (N:Nm) (H:Hp) (f:Bool) (x:V) (s:Sy):Prop:=∃ a,x=.ref a∧((s.2=false∧Bp A N H f a s.1)∨(s.2=true∧∃ dx b,H a=some (Yr A dx b)∧Bp A N H f b s.1))
def Wa (A:cQ) (N:Nm) (H:Hp) (x:V):Sg→Prop
 | none=>x=.non
 | some s=>K6 A N H false x s
theorem Wb {A:cQ}{N:Nm}{f:Bool}{dx:Addr}{t:At}:Pl (atO A N f dx t):=by cases t <;> trivial
theorem Bp.kq {A:cQ}{N:Nm}{H H':Hp} (k:Kq H H') {f:Bool}{a:Addr}{t:At} (h:Bp A N H f a t):Bp A N H' f a t:=by
 obtain⟨dx,h⟩:=h
 exact⟨dx,k _ _ h Wb⟩
theorem K6.kq {A:cQ}{N:Nm}{H H':Hp} (k:Kq H H') {f:Bool}{x:V}{s:Sy} (h:K6 A N H f x s):K6 A N H' f x s:=by
 obtain⟨a,e,h⟩:=h
 rcases h with ⟨c,h⟩ | ⟨c,dx,b,h,h'⟩
 · exact⟨a,e,.inl ⟨c,h.kq k⟩⟩
 · exact⟨a,e,.inr ⟨c,dx,b,k _ _ h trivial,h'.kq k⟩⟩
theorem Wa.kq {A:cQ}{N:Nm}{H H':Hp} (k:Kq H H') {x:V}{s:Sg} (h:Wa A N H x s):Wa A N H' x s:=by
 cases s with
 | none=>exact h
 | some s=>exact K6.kq k h
def Qj (A:cQ) (H:Hp) (x:V) (r:Rw):Prop:=∃ a dx k dk,x=.ref a∧H a=some (oM A dx (.str r.nm) (.ref k) .non)∧H k=some (oK A dk r)
def JZ (A:cQ) (N:Nm) (nms:List Str) (H:Hp) (x:V) (v:Wy):Prop:=∃ a y t,x=.ref a∧H a=some (.tup [.str t,y])∧nms[v.1]? = some t∧Wa A N H y v.2
def Qk (A:cQ) (N:Nm) (nms:List Str) (H:Hp) (x:V) (s:mR):Prop:=∃ a dx q1 q2 xs ys,x=.ref a∧H a=some (oSh A dx (.str s.1) .non q1 q2)∧H q1=some (.lst xs)∧H q2=some (.lst ys)∧Paired (Qj A H) xs s.2.1∧Paired (JZ A N nms H) ys s.2.2
def pU (S:List mR):List Str:=S.map (·.1)++[‹"end"›]
def Ql (A:cQ) (N:Nm) (H:Hp) (a:Addr) (S:List mR):Prop:=∃ dx u q1 q2 xs,H a=some (oPa A dx u q1 q2)∧H q1=some (.lst xs)∧H q2=some (.lst [])∧Paired (Qk A N (pU S) H) xs S
theorem Qj.kq {A:cQ}{H H':Hp} (f:Kq H H') {x:V}{r:Rw} (h:Qj A H x r):Qj A H' x r:=by
 obtain⟨a,dx,k,dk,e,h1,h2⟩:=h
 exact⟨a,dx,k,dk,e,f _ _ h1 trivial,f _ _ h2 trivial⟩
theorem JZ.kq {A:cQ}{N:Nm}{nms:List Str}{H H':Hp} (f:Kq H H') {x:V}{r:Wy} (h:JZ A N nms H x r):JZ A N nms H' x r:=by
 obtain⟨a,y,t,e,h1,h2,h3⟩:=h
 exact⟨a,y,t,e,f _ _ h1 trivial,h2,h3.kq f⟩
theorem Qk.kq {A:cQ}{N:Nm}{nms:List Str}{H H':Hp} (f:Kq H H') {x:V}{s:mR} (h:Qk A N nms H x s):Qk A N nms H' x s:=by
 obtain⟨a,dx,q1,q2,xs,ys,e,h1,h2,h3,h4,h5⟩:=h
 exact⟨a,dx,q1,q2,xs,ys,e,f _ _ h1 trivial,f _ _ h2 trivial,f _ _ h3 trivial,zJ h4 fun _ _=>Qj.kq f,zJ h5 fun _ _=>JZ.kq f⟩
theorem Ql.kq {A:cQ}{N:Nm}{H H':Hp} (f:Kq H H') {a:Addr}{S:List mR} (h:Ql A N H a S):Ql A N H' a S:=by
 obtain⟨dx,u,q1,q2,xs,h1,h2,h3,h4⟩:=h
 exact⟨dx,u,q1,q2,xs,f _ _ h1 trivial,f _ _ h2 trivial,f _ _ h3 trivial,zJ h4 fun _ _=>Qk.kq f⟩
def jD (S:List mR) (r:Rw):Prop:=∃ s∈S,r∈s.2.1
structure GS (N:Nm) (S:List mR):Prop where
 len:S.length≤5
 rows:∀ s∈S,s.2.1.length≤4
 ways:∀ s∈S,s.2.2.length≤4
 una:∀ r r',jD S r→jD S r'→r.nm=r'.nm→r=r'
 q0:∃ lo hi,jD S ⟨N 0,lo,hi,true⟩
 q1:jD S ⟨N 1,0,1,false⟩
 fst:∃ sh,S[0]? = some sh∧N 0∈sh.2.1.map (·.nm)∧N 1∈sh.2.1.map (·.nm)
 aim:∀ (i:Nat) (s:mR),S[i]? = some s→∀ v∈s.2.2,i<v.1∧v.1≤S.length
 nd:(pU S).Nodup
def Sw (A:cQ) (H:Hp) (kvs:List (Key × V)) (S:List mR):Prop:=∀ r,jD S r→∃ k dk,dq kvs (.inr r.nm)=some (.ref k)∧H k=some (oK A dk r)
def Ys (kvs:List (Key × V)) (S:List mR):Prop:=∀ r,jD S r→dq kvs (.inr r.nm)=some .non
theorem Sw.kq {A:cQ}{H H':Hp} (f:Kq H H') {kvs:List (Key × V)}{S:List mR} (h:Sw A H kvs S):Sw A H' kvs S:=fun z hz=>by
 obtain⟨k,dk,h1,h2⟩:=h z hz
 exact⟨k,dk,h1,f _ _ h2 trivial⟩
def Sx (A:cQ):Sp:=fun vs H Q _=>∃ N a S,vs=[.ref a]∧Ql A N H a S∧GS N S∧∀ d kvs H',H d=none→aB H H'→H' d=some (.dK kvs)→Sw A H kvs S→Q (.ref d) H'
def Qm (A:cQ):Sp:=fun vs H Q _=>∃ N a S,vs=[.ref a]∧Ql A N H a S∧GS N S∧∀ d kvs H',H d=none→aB H H'→H' d=some (.dK kvs)→Ys kvs S→Q (.ref d) H'
def pW (R:Rw→Prop) (S:List mR) (i:Nat) (rs:List Rw) (j:Nat):Prop:=(∀ (i':Nat) (s:mR),i'<i→S[i']? = some s→∀ r∈s.2.1,R r)∧∀ j' r,j'<j→rs[j']? = some r→R r
theorem pW.zero {R:Rw→Prop}{S:List mR}{rs:List Rw}:pW R S 0 rs 0:=⟨fun _ _ h=>absurd h (Nat.not_lt_zero _),fun _ _ h=>absurd h (Nat.not_lt_zero _)⟩
theorem pW.next {R:Rw→Prop}{S:List mR}{i:Nat}{s:mR}{rs':List Rw} (hs:S[i]? = some s) (h:pW R S i s.2.1 s.2.1.length):pW R S (i+1) rs' 0:=⟨fun i' s' hi e r hr=>by
 by_cases z:i'=i
 · subst z;rw [hs] at e;cases e
   obtain⟨j,hj⟩:=List.mem_iff_getElem?.mp hr
   exact h.2 j r (List.getElem?_eq_some_iff.mp hj).1 hj
 · exact h.1 i' s' (by omega) e r hr,fun _ _ h=>absurd h (Nat.not_lt_zero _)⟩
theorem pW.first {R:Rw→Prop}{S:List mR}{i:Nat}{rs rs':List Rw} (h:pW R S i rs 0):pW R S i rs' 0:=⟨h.1,fun _ _ h=>absurd h (Nat.not_lt_zero _)⟩
theorem pW.ask {R R':Rw→Prop}{S:List mR}{i j:Nat}{s:mR}{r:Rw} (hs:S[i]? = some s) (hr:s.2.1[j]? = some r) (h:pW R S i s.2.1 j) (k:∀ z,jD S z→R z→R' z) (kr:R' r):pW R' S i s.2.1 (j+1):=⟨fun i' s hi e r hr=>k _ ⟨s,List.mem_of_getElem? e,hr⟩ (h.1 i' s hi e r hr),fun j' r' hj e=>by
 by_cases z:j'=j
 · subst z;rw [hr] at e;cases e;exact kr
 · exact k _ ⟨s,List.mem_of_getElem? hs,List.mem_of_getElem? e⟩ (h.2 j' r' (by omega) e)⟩
theorem pW.all {R:Rw→Prop}{S:List mR}{rs:List Rw} (h:pW R S S.length rs 0):∀ z,jD S z→R z:=fun z hz=>by
 obtain⟨s,hs,hr⟩:=hz
 obtain⟨i,hi⟩:=List.mem_iff_getElem?.mp hs
 exact h.1 i s (List.getElem?_eq_some_iff.mp hi).1 hi z hr
section
variable {P:Program}{w:World}{K:W.Frag}{mg:Str→Option Value}{base:Heap}{A:cQ}
theorem Hn (T:Txt K mg A):bw P w K mg base b8 1 A.nu A.q9 ["paper"] (Sx A):=by
 refine T.Jm.ok lX (fun vs H Q E h=>?_) (fun cdv A0 outer s H vs Q E hr h=>?_)
 · obtain⟨N,a,S,rfl,_⟩:=h
   rfl
 obtain⟨N,a,S,rfl,hP,hG,q⟩:=h
 refine⟨_,(zC (zX (i:=1) lX.nd rfl ‹0› oV)
     (zC (jd PassesOwn.never rfl (xA (zK (pv 0) rfl)) (yL (i:=2) lX.nd rfl ‹0›) (zE (jd PassesOwn.never rfl (xA (zK (pv 2) rfl)) (yL (i:=3) lX.nd rfl ‹0›) (zE (yA (yO (zY yS (by rfl) T.aH Bt.isinstance (zA (pv 3) (zA (vI rfl T.PK) zD)))) (zE (wR (ji hr) (pv 1) (zK (pv 3) rfl) (zK (pv 3) rfl) rfl)) zR)))))
     (zE (zN (pv 1))))),?_⟩
 intro d hd
 obtain⟨dx,u,q1,q2,xs,p1,p2,p3,p4⟩:=hP
 have s0:=zF hd (.dK [])
 refine⟨_,rfl,a,_,dx,_,_,rfl,s0 _ _ p1,T.fU,T.cN,(by rw [lk2 (by symm)]),q1,rfl,⟨xs,b7.of (s0 _ _ p2)⟩,?_⟩
 have lens:=zU p4
 have hlen:=hG.len
 refine xL (xs:=xs) (fun i σ H'=>∃ kvs u v,σ=[some (.ref a),some (.ref d),u,v]∧Fr [d] (upd H d (.dK [])) H'∧H' d=some (.dK kvs)∧kvs.length≤4*i∧pW (fun z=>∃ k dk,dq kvs (.inr z.nm)=some (.ref k)∧H k=some (oK A dk z)) S i [] 0) ⟨[],_,_,rfl,Fr.of (aB.refl _),zB,Nat.zero_le _,.zero⟩ (fun i σ H' hi hw=>?_) (fun i x σ H' hx hw=>?_) (fun σ H' hw=>?_)
 · obtain⟨kvs,u,v,rfl,F,_⟩:=hw
   exact b7.of (F _ _ (s0 _ _ p2) (oJ (zH p2 hd)))
 · obtain⟨kvs,u,v,rfl,F,hd',hl,hK⟩:=hw
   obtain⟨sh,hsh,hS⟩:=yK p4 hx
   obtain⟨sa,Nb,r1,r2,rs,ws,rfl,a1,a2,a3,a4,a5⟩:=hS
   have nn:∀ {b:Addr}{o:HO},H b=some o→H' b=some o:=fun {b o} hb=>F _ _ (s0 _ _ hb) (oJ (zH hb hd))
   have hr4:=hG.rows sh (List.mem_of_getElem? hsh)
   have hi5:i<5:=by have:=(List.getElem?_eq_some_iff.mp hsh).1;omega
   have lr:=zU a4
   refine⟨_,rfl,sa,_,Nb,_,_,rfl,nn a1,T.dR,T.jf,rfl,r1,rfl,⟨rs,b7.of (nn a2)⟩,?_⟩
   refine xL (xs:=rs) (fun j σ H'=>∃ kvs v,σ=[some (.ref a),some (.ref d),some (.ref sa),v]∧Fr [d] (upd H d (.dK [])) H'∧H' d=some (.dK kvs)∧kvs.length≤4*i+j∧pW (fun z=>∃ k dk,dq kvs (.inr z.nm)=some (.ref k)∧H k=some (oK A dk z)) S i sh.2.1 j) ⟨kvs,_,rfl,F,hd',hl,hK.first⟩ (fun j σ H2 hj hw=>?_) (fun j x σ H2 hx2 hw=>?_) (fun σ H2 hw=>?_)
   · obtain⟨kvs,v,rfl,F,_⟩:=hw
     exact b7.of (F _ _ (s0 _ _ a2) (oJ (zH a2 hd)))
   · obtain⟨kvs,v,rfl,F,hd',hl,hK⟩:=hw
     obtain⟨r,hr,hR⟩:=yK a4 hx2
     have hj4:j<4:=by have:=(List.getElem?_eq_some_iff.mp hr).1;omega
     have nn:∀ {b:Addr}{o:HO},H b=some o→H2 b=some o:=fun {b o} hb=>F _ _ (s0 _ _ hb) (oJ (zH hb hd))
     obtain⟨ra,Q0,k,dk,rfl,b1,b2⟩:=hR
     have hrS:jD S r:=⟨sh,List.mem_of_getElem? hsh,List.mem_of_getElem? hr⟩
     · refine⟨_,rfl,_,_,_,_,rfl,rfl,.old (T.JS H2 ra Q0 _ (nn b1)),T.rN,_,rfl,bM ?_⟩
       refine⟨_,rfl,ra,_,Q0,_,_,rfl,nn b1,T.pJ,T.vO,rfl,_,rfl,_,rfl,ra,_,Q0,_,_,rfl,nn b1,T.pJ,T.lV,rfl,d,_,rfl,Aq.k (k:=.inr r.nm) hd' (yJ (m:=1000) (by omega)),?_⟩
       have hp:=xF kvs (.inr r.nm) (.ref k)
       refine⟨_,_,rfl,F.upd (List.mem_singleton.mpr rfl) _,zB,by omega,hK.ask hsh hr (fun z hzS hz=>?_) ?_⟩
       · rw [xQ]
         by_cases e:(Sum.inr z.nm:Key)=.inr r.nm
         · rw [if_pos e]
           have:=hG.una z r hzS hrS (Sum.inr.inj e)
           subst this
           exact⟨k,dk,rfl,b2⟩
         · rw [if_neg e];exact hz
       · rw [xQ,if_pos rfl];exact⟨k,dk,rfl,b2⟩
   · obtain⟨kvs,v,rfl,F,hd',hl,hK⟩:=hw
     rw [lr] at hl hK
     exact⟨kvs,_,_,rfl,F,hd',by omega,hK.next hsh⟩
 · obtain⟨kvs,u,v,rfl,F,hd',hl,hK⟩:=hw
   rw [lens] at hK
   exact⟨_,rfl,q d kvs H' hd (fun b o hb=>F _ _ (s0 _ _ hb) (oJ (zH hb hd))) hd' hK.all⟩
theorem Ea (T:Txt K mg A):bw P w K mg base b8 1 A.lG A.o5 ["paper"] (Qm A):=by
 refine T.Gg.ok jK (fun vs H Q E h=>?_) (fun cdv A0 outer s H vs Q E hr h=>?_)
 · obtain⟨N,a,S,rfl,_⟩:=h
   rfl
 obtain⟨N,a,S,rfl,hP,hG,q⟩:=h
 refine⟨_,(zC (zX (i:=1) jK.nd rfl ‹0› oV)
     (zC (jd PassesOwn.never rfl (xA (zK (pv 0) rfl)) (yL (i:=2) jK.nd rfl ‹0›) (zE (jd PassesOwn.never rfl (xA (zK (pv 2) rfl)) (yL (i:=3) jK.nd rfl ‹0›) (zE (yA (yO (zY yS (by rfl) T.aH Bt.isinstance (zA (pv 3) (zA (vI rfl T.PK) zD)))) (zE (wR (ji hr) (pv 1) (zK (pv 3) rfl) (zK (pv 2) rfl) rfl)) zR)))))
     (zE (zN (pv 1))))),?_⟩
 intro d hd
 obtain⟨dx,u,q1,q2,xs,p1,p2,p3,p4⟩:=hP
 have s0:=zF hd (.dK [])
 refine⟨_,rfl,a,_,dx,_,_,rfl,s0 _ _ p1,T.fU,T.cN,(by rw [lk2 (by symm)]),q1,rfl,⟨xs,b7.of (s0 _ _ p2)⟩,?_⟩
 have lens:=zU p4
 have hlen:=hG.len
 refine xL (xs:=xs) (fun i σ H'=>∃ kvs u v,σ=[some (.ref a),some (.ref d),u,v]∧Fr [d] (upd H d (.dK [])) H'∧H' d=some (.dK kvs)∧kvs.length≤4*i∧pW (fun z=>dq kvs (.inr z.nm)=some .non) S i [] 0) ⟨[],_,_,rfl,Fr.of (aB.refl _),zB,Nat.zero_le _,.zero⟩ (fun i σ H' hi hw=>?_) (fun i x σ H' hx hw=>?_) (fun σ H' hw=>?_)
 · obtain⟨kvs,u,v,rfl,F,_⟩:=hw
   exact b7.of (F _ _ (s0 _ _ p2) (oJ (zH p2 hd)))
 · obtain⟨kvs,u,v,rfl,F,hd',hl,hK⟩:=hw
   obtain⟨sh,hsh,hS⟩:=yK p4 hx
   obtain⟨sa,Nb,r1,r2,rs,ws,rfl,a1,a2,a3,a4,a5⟩:=hS
   have nn:∀ {b:Addr}{o:HO},H b=some o→H' b=some o:=fun {b o} hb=>F _ _ (s0 _ _ hb) (oJ (zH hb hd))
   have hr4:=hG.rows sh (List.mem_of_getElem? hsh)
   have hi5:i<5:=by have:=(List.getElem?_eq_some_iff.mp hsh).1;omega
   have lr:=zU a4
   refine⟨_,rfl,sa,_,Nb,_,_,rfl,nn a1,T.dR,T.jf,rfl,r1,rfl,⟨rs,b7.of (nn a2)⟩,?_⟩
   refine xL (xs:=rs) (fun j σ H'=>∃ kvs v,σ=[some (.ref a),some (.ref d),some (.ref sa),v]∧Fr [d] (upd H d (.dK [])) H'∧H' d=some (.dK kvs)∧kvs.length≤4*i+j∧pW (fun z=>dq kvs (.inr z.nm)=some .non) S i sh.2.1 j) ⟨kvs,_,rfl,F,hd',hl,hK.first⟩ (fun j σ H2 hj hw=>?_) (fun j x σ H2 hx2 hw=>?_) (fun σ H2 hw=>?_)
   · obtain⟨kvs,v,rfl,F,_⟩:=hw
     exact b7.of (F _ _ (s0 _ _ a2) (oJ (zH a2 hd)))
   · obtain⟨kvs,v,rfl,F,hd',hl,hK⟩:=hw
     obtain⟨r,hr,hR⟩:=yK a4 hx2
     have hj4:j<4:=by have:=(List.getElem?_eq_some_iff.mp hr).1;omega
     have nn:∀ {b:Addr}{o:HO},H b=some o→H2 b=some o:=fun {b o} hb=>F _ _ (s0 _ _ hb) (oJ (zH hb hd))
     obtain⟨ra,Q0,k,dk,rfl,b1,b2⟩:=hR
     have hrS:jD S r:=⟨sh,List.mem_of_getElem? hsh,List.mem_of_getElem? hr⟩
     · refine⟨_,rfl,_,_,_,_,rfl,rfl,.old (T.JS H2 ra Q0 _ (nn b1)),T.rN,_,rfl,bM ?_⟩
       refine⟨_,rfl,sa,_,Nb,_,_,rfl,nn a1,T.dR,T.mK,rfl,_,rfl,_,rfl,ra,_,Q0,_,_,rfl,nn b1,T.pJ,T.lV,rfl,d,_,rfl,Aq.k (k:=.inr r.nm) hd' (yJ (m:=1000) (by omega)),?_⟩
       have hp:=xF kvs (.inr r.nm) .non
       refine⟨_,_,rfl,F.upd (List.mem_singleton.mpr rfl) _,zB,by omega,hK.ask hsh hr (fun z hzS hz=>?_) ?_⟩
       · rw [xQ]
         by_cases e:(Sum.inr z.nm:Key)=.inr r.nm
         · rw [if_pos e]
         · rw [if_neg e];exact hz
       · rw [xQ,if_pos rfl]
   · obtain⟨kvs,v,rfl,F,hd',hl,hK⟩:=hw
     rw [lr] at hl hK
     exact⟨kvs,_,_,rfl,F,hd',by omega,hK.next hsh⟩
 · obtain⟨kvs,u,v,rfl,F,hd',hl,hK⟩:=hw
   rw [lens] at hK
   exact⟨_,rfl,q d kvs H' hd (fun b o hb=>F _ _ (s0 _ _ hb) (oJ (zH hb hd))) hd' hK.all⟩
def aao (A:cQ):Sp:=fun vs H Q _=>∃ N a S,vs=[.ref a]∧Ql A N H a S∧∀ d H',H d=none→aB H H'→H' d=some (.dK [])→Q (.ref d) H'
theorem wL (T:Txt K mg A):bw P w K mg base b8 1 A.gM A.j7 ["paper"] (aao A):=by
 refine T.yo.ok wI (fun vs H Q E h=>?_) (fun cdv A0 outer s H vs Q E hr h=>?_)
 · obtain⟨N,a,sh,rfl,_⟩:=h
   rfl
 obtain⟨N,a,sh,rfl,hP,q⟩:=h
 refine⟨_,(zE (zN (jN (Av rfl) (by rfl) T.VM Bt.dict (zA (xW (jT (xC (x:="name") (M:=["paper"]) rfl (by rfl)) (by rfl) (by symm)) rfl (xA (zK (pv 0) rfl)) (fun _ _ _ _=>oY) (fun _ _ _ _=>(yC (zA (pv 0) (zA Pg zD))))) zD)))),?_⟩
 obtain⟨dx,u,q1,q2,xs,p1,p2,p3,p4⟩:=hP
 refine⟨_,rfl,a,_,dx,_,_,rfl,p1,T.fU,T.oA,rfl,q2,rfl,⟨[],b7.of p3⟩,?_⟩
 refine jU (xs:=[]) (Nat.zero_le _) (fun i zs H'=>H=H'∧zs=[]) ⟨rfl,rfl⟩ (fun i zs H' hw=>by obtain⟨rfl,_⟩:=hw;exact b7.of p3) (fun i x zs H' hx hlen hw=>by simp at hx) (fun zs H' hw p2' hp2=>?_)
 obtain⟨rfl,rfl⟩:=hw
 refine⟨p2',rfl,zB,fun d hd=>?_⟩
 exact q d _ (m6 hd).2 ((zF hp2 _).trans (zF hd _)) zB
end
theorem Eb {a b:Str}{A B:Prop} (h:a≠b) (k:B):if (decide (V.str a=V.str b))=true then A else B:=by
 rw [decide_eq_false (fun e=>h (V.str.inj e))]
 exact aW k
theorem Nf {a b:Str}{A B:Prop} (h:a=b) (k:A):if (decide (V.str a=V.str b))=true then A else B:=by
 rw [decide_eq_true (by rw [h])]
 exact bM k
theorem wN (i m:Int):decide (V.int i=V.int m)=decide (i=m):=by
 by_cases e:i=m
 · rw [decide_eq_true e,decide_eq_true (by rw [e])]
 · rw [decide_eq_false e,decide_eq_false (fun z=>e (V.int.inj z))]
abbrev Qn:=Int × Int
abbrev Rg:=Str→Qn
def rv:Option Int→V
 | none=>.non
 | some i=>.int i
def tv:Option Bool→V
 | none=>.non
 | some b=>.bl b
def m7 (r:Option Int) (h:Str) (m:Int):Bool:=match r with
 | none=>false
 | some i=>if h="<" then decide (i<m) else if h=">" then decide (m<i) else decide (i=m)
def oN (p:Qn) (h:Str) (m:Int):Option Bool:=if (m7 (some p.1) h m && m7 (some p.2) h m)=true then some true else if (m7 (some p.1) h m || m7 (some p.2) h m || (decide (p.1<m) && decide (m<p.2)))=true then none else some false
def At.h:At→Str
 | .is _=>‹"="›
 | .cmp h _=>h
def At.m:At→Int
 | .is w=>Uh w
 | .cmp _ m=>m
def Ho (rg:Rg) (N:Nm) (t:At):Option Bool:=oN (rg (N t.i)) t.h t.m
def tri (rg:Rg) (N:Nm) (s:Sy):Option Bool:=if s.2=true then (Ho rg N s.1).map (!·) else Ho rg N s.1
structure GA where
 dx:Addr
 pa:Addr
 kd:Addr
 ed:Addr
 tg:Addr
 aq:Addr
 lg:Addr
 db:Addr
 bx:Addr
abbrev gF (c:GA) (ov:Bool) (ct:V):List (Str × V):=[("paper",.ref c.pa),("alone",.int 0),("kinds",.ref c.kd),("eaches",.ref c.ed),("together",.ref c.tg),("asked",.ref c.aq),("log",.ref c.lg),("doubles",.ref c.db),("over",.bl ov),("box",.ref c.bx),("cutting",ct)]
abbrev Wc (A:cQ) (c:GA) (ov:Bool) (ct:V):HO:=.ins A.au c.dx (gF c ov ct)
def Wd (H:Hp) (kvs:List (Key × V)) (rg:Rg) (l:List Str):Prop:=kvs.length≤l.length∧(∀ z∈l,∃ d t,dq kvs (.inr z)=some (.ref d)∧H d=some (.dK [(.inl 0,.ref t)])∧H t=some (.tup [.int (rg z).1,.int (rg z).2]))∧∀ z,z∉l→dq kvs (.inr z)=none
theorem Wd.kq {H H':Hp} (f:Kq H H') {kvs:List (Key × V)}{rg:Rg}{l:List Str} (h:Wd H kvs rg l):Wd H' kvs rg l:=⟨h.1,fun z hz=>by
 obtain⟨d,t,h1,h2,h3⟩:=h.2.1 z hz
 exact⟨d,t,h1,f _ _ h2 trivial,f _ _ h3 trivial⟩,h.2.2⟩
structure We (A:cQ) (H:Hp) (g:Addr) (c:GA) (ov:Bool) (ct:V) (S:List mR) (rg:Rg) (l:List Str):Prop where
 go:H g=some (Wc A c ov ct)
 tg:H c.tg=some (.dK [])
 ed:∃ kvs,H c.ed=some (.dK kvs)∧Ys kvs S
 aq:∃ kvs,H c.aq=some (.dK kvs)∧Wd H kvs rg l
theorem We.kq {A:cQ}{H H':Hp} (f:Kq H H') {g:Addr}{c:GA}{ov:Bool}{ct:V}{S:List mR}{rg:Rg}{l:List Str} (h:We A H g c ov ct S rg l):We A H' g c ov ct S rg l:=by
 obtain⟨h1,h2,⟨k,h3,h4⟩,⟨k',h5,h6⟩⟩:=h
 exact⟨f _ _ h1 trivial,f _ _ h2 trivial,⟨k,f _ _ h3 trivial,h4⟩,⟨k',f _ _ h5 trivial,h6.kq f⟩⟩
def SJ (s:Stmt):Expr:=match aj s with
 | [_,_,.Assign _ e _,_,_,_]=>e
 | _=>.Name "" ⟨0,0,0,0⟩
def akg (e:Expr):Arguments:=match e with
 | .Lambda a _ _ _=>a
 | _=>{ posonlyargs:=[],args:=[],vararg:=none,kwonlyargs:=[],kw_defaults:=[],kwarg:=none,defaults:=[] }
def akh (e:Expr):Expr:=match e with
 | .Lambda _ b _ _=>b
 | _=>.Name "" ⟨0,0,0,0⟩
def aki (e:Expr):Scope:=match e with
 | .Lambda _ _ s _=>s
 | _=>{ kind:=.function,names:=[],isGenerator:=false,isCoroutine:=false }
def lamP (e:Expr):Pos:=match e with
 | .Lambda _ _ _ p=>p
 | _=>⟨0,0,0,0⟩
def DL:jk:={ qual:=‹"ByBox.is_so"› ++ ".<locals>." ++ "<lambda>",params:=akg (SJ aG),body:=akh (SJ aG),scope:=aki (SJ aG),x:="name",ys:=["thing","self"] }
abbrev MK:Pos:=lamP (SJ aG)
theorem J0:DL.Ok:=⟨rfl,rfl,rfl,rfl,by symm,fun _ _ _ _ _=>rfl⟩
def aap (P:Program) (w:World) (K:W.Frag) (mg:Str→Option Value) (base:Heap) (k:Nat):TE:=fun σ H Q=>mV 2 σ H fun x H1=>∃ (a C dx:Addr) (fs:List (Str × V)) (M:dj P w K mg base b8 k C "span_of"),x=.ref a∧H1 a=some (.ins C dx fs)∧fs.lookup ‹"span_of"› = none ∧
 N5 (mV 0) (N5 (mV 1) LC) σ H1 fun vs H2=>M.sp (x::(vs++M.qX)) H2 Q E0
theorem Hq {P:Program}{w:World}{K:W.Frag}{mg:Str→Option Value}{base:Heap}{p:Addr}{cs:List (Str × Addr)}{cd:Value}{A:Around}{outer:List Env}{s:Shared}{H:Hp}{E:XK} (hr:dO 4 (A.deeper (W.envX DL.qual DL.scope s.heap.objs.size p cd cs))) :
   PE (xY b8 P w K mg base DL p cs cd A outer s H E) DL.body (aap P w K mg base 4):=by
 show PE _ (.Call (.Attribute (.Name "self" _) "span_of" _) [.Name "name" _,.Name "thing" _] [] _) _
 exact yD (CX:=b8) (k:=4) hr zT (pv 2) (zA (pv 0) (zA (pv 1) zD))
theorem Uj {D:jk}{H:Hp}{p:Addr}{cs:List (Str × Addr)}{ws:List V} (L:xX D H p cs ws):Kq H (dels H (cs.map (·.2))):=fun b o h p=>by
 rw [xB]
 · exact h
 · intro hb
   obtain⟨q,hq,rfl⟩:=List.mem_map.mp hb
   obtain⟨v,_,ob,f⟩:=o4 L.cells q hq
   rw [h] at f;cases f;exact p
theorem Qo {H H':Hp} (s:aB H H') {b:Addr}{u:HO} (h:Fz H b u):Fz H' b u:=by
 obtain⟨o,h⟩:=h
 exact⟨o,s _ _ h⟩
theorem SM {D:jk}{H H':Hp} (s:aB H H') {p:Addr}{cs:List (Str × Addr)}{ws:List V} (L:xX D H p cs ws):xX D H' p cs ws:=by
 obtain⟨⟨c',h1,h2⟩,h3,h4,h5⟩:=L
 exact⟨⟨c',s _ _ h1,Qo s h2⟩,h3,h4,zJ h5 fun _ _=>Qo s⟩
theorem Cw {H:Hp}{ca:List Addr}{b:Addr}{o:HO} (h:dels H ca b=some o):H b=some o:=by
 by_cases e:b∈ca
 · rw [qe e] at h;cases h
 · rw [xB e] at h;exact h
def Hr (S:List mR) (z:Str):Prop:=∃ r,jD S r∧r.nm=z
theorem Ys.at {kvs:List (Key × V)}{S:List mR} (h:Ys kvs S) {z:Str} (hz:Hr S z):dq kvs (.inr z)=some .non:=by
 obtain⟨r,h1,rfl⟩:=hz
 exact h r h1
def Hs (A:cQ) (H:Hp) (p:Addr) (S:List mR) (rg:Rg) (l:List Str):Prop:=∃ cs g c ov ct,xX DL H p cs [.int 0,.ref g]∧We A H g c ov ct S rg l
def aaq (A:cQ):Sp:=fun vs H Q _=>∃ g c ov ct S rg l z,vs=[.ref g,.str z,.int 0]∧We A H g c ov ct S rg l∧Hr S z∧Q (.int 0) H
def aar (A:cQ):Sp:=fun vs H Q _=>∃ g c ov ct S rg l z,vs=[.ref g,.str z,.int 0]∧We A H g c ov ct S rg l∧Hr S z∧z∈l∧∀ t H',aB H H'→H t=some (.tup [.int (rg z).1,.int (rg z).2])→Q (.ref t) H'
def Wf:Sp:=fun vs H Q _=>∃ r h m,vs=[rv r,.str h,.int m]∧Q (.bl (m7 r h m)) H
def akj (K:W.Frag):Sp:=fun vs H Q _=>∃ a lo hi h m,vs=[.ref a,.str h,.int m]∧H a=some (.tup [.int lo,.int hi])∧∀ H',aB H H'→Q (tv (oN (lo,hi) h m)) H'
def Wg (A:cQ) (j:Nat):Sp:=fun vs H Q _=>∃ a N t p S rg l,vs=[.ref a,.ref p]∧Bp A N H true a t∧t.i=j∧Hs A H p S rg l∧Hr S (N t.i)∧N t.i∈l∧∀ H',aB H H'→Q (tv (Ho rg N t)) H'
def aas (A:cQ):Sp:=fun vs H Q _=>∃ a dx b N t p S rg l,vs=[.ref a,.ref p]∧H a=some (Yr A dx b)∧Bp A N H true b t∧Hs A H p S rg l∧Hr S (N t.i)∧N t.i∈l∧∀ H',aB H H'→Q (tv ((Ho rg N t).map (!·))) H'
section
variable {P:Program}{w:World}{K:W.Frag}{mg:Str→Option Value}{base:Heap}{A:cQ}
theorem Wh (T:Txt K mg A):bw P w K mg base b8 1 A.fG A.fH ["self","question","thing"] (aaq A):=by
 refine T.qw.ok pN (fun vs H Q E h=>?_) (fun cdv A0 outer s H vs Q E hr h=>?_)
 · obtain⟨g,c,ov,ct,S,rg,l,z,rfl,_⟩:=h
   rfl
 obtain⟨g,c,ov,ct,S,rg,l,z,rfl,hR,hz,q⟩:=h
 refine⟨_,(zE (zN (oR (zO xG (wQ (ji hr) (zK (pv 0) rfl) (pv 1) (fun _ _=>rfl)) yF (zQ _)) (zK (pv 0) rfl) (pv 2)))),?_⟩
 obtain⟨kvs,e1,e2⟩:=hR.ed
 refine⟨_,rfl,g,_,c.dx,gF c ov ct,_,rfl,hR.go,T.aA,T.oE,rfl,_,rfl,c.ed,.non,rfl,(by rw [← e2.at hz];exact il.k (k:=.inr z) e1),rfl,_,rfl,bM ?_⟩
 exact⟨_,rfl,g,_,c.dx,gF c ov ct,_,rfl,hR.go,T.aA,T.gW,rfl,q⟩
def JOw (T:Txt K mg A):dj P w K mg base b8 2 A.au "own_thing":=⟨_,_,_,_,[],[],T.aA,T.rR,(Wh T).mono (by decide),T.qx,.nil⟩
theorem aat (T:Txt K mg A):bw P w K mg base b8 3 A.gj A.gm ["self","question","thing"] (aar A):=by
 refine T.rE.ok qJ (fun vs H Q E h=>?_) (fun cdv A0 outer s H vs Q E hr h=>?_)
 · obtain⟨g,c,ov,ct,S,rg,l,z,rfl,_⟩:=h
   rfl
 obtain⟨g,c,ov,ct,S,rg,l,z,rfl,hR,hz,hm,q⟩:=h
 obtain⟨pX,e1⟩:∃ k:Nat,k=2:=⟨_,rfl⟩
 refine⟨_,(zE (zN (Fp (ji hr) (Fq (ji hr) (zK (pv 0) rfl) (pv 1) oV ⟨rfl,rfl,rfl,rfl⟩) (yD (CX:=b8) (k:=pX) ‹hr› zT (pv 0) (zA (pv 1) (zA (pv 2) zD))) ⟨rfl,rfl,rfl,rfl⟩))),?_⟩
 subst e1
 obtain⟨kvs,a1,a2⟩:=hR.aq
 refine⟨_,rfl,g,_,c.dx,gF c ov ct,_,rfl,hR.go,T.aA,T.eU,rfl,c.aq,rfl,.inl ⟨kvs,.inl a1⟩,_,rfl,fun d hd=>?_⟩
 have s1:=zF hd (.dK [])
 have R1:=hR.kq (.of s1)
 refine⟨_,il.k (k:=.inr z) (s1 _ _ a1),?_⟩
 obtain⟨d2,t,b2,b3,b4⟩:=a2.2.1 z hm
 rw [b2]
 refine⟨d2,rfl,.inl ⟨_,.inl (s1 _ _ b3)⟩,_,rfl,g,_,c.dx,gF c ov ct,JOw T,rfl,R1.go,rfl,_,rfl,_,rfl,?_⟩
 exact⟨g,c,ov,ct,S,rg,l,z,rfl,R1,hz,_,il.k (k:=.inl 0) (s1 _ _ b3),q t _ s1 b4⟩
def JKn (T:Txt K mg A):dj P w K mg base b8 3 A.au "known_of":=⟨_,_,_,_,[],[],T.aA,T.tW,aat T,T.rF,.nil⟩
theorem SN (T:Txt K mg A):bw P w K mg base b8 4 A.gR A.gU ["self","name","thing"] (aar A):=by
 refine T.tK.ok rY (fun vs H Q E h=>?_) (fun cdv A0 outer s H vs Q E hr h=>?_)
 · obtain⟨g,c,ov,ct,S,rg,l,z,rfl,_⟩:=h
   rfl
 obtain⟨g,c,ov,ct,S,rg,l,z,rfl,hR,hz,hm,q⟩:=h
 obtain⟨sr,e1⟩:∃ k:Nat,k=3:=⟨_,rfl⟩
 refine⟨_,(zC (yA (zO (yc (ji hr)) (pv 1) (zK (pv 0) rfl) (by rfl)) (zE (zN (yD (CX:=b8) (k:=sr) ‹hr› zT (pv 0) (zA (pv 1) (zA (pv 2) zD))))) zR)
     (zC nZ
     (zC nZ
     (zC nZ
     (zC nZ
     (zE nZ)))))),?_⟩
 subst e1
 refine⟨_,rfl,_,rfl,g,_,c.dx,gF c ov ct,_,rfl,hR.go,T.aA,T.gY,rfl,c.tg,_,rfl,il.k (k:=.inr z) hR.tg,_,rfl,bM ?_⟩
 refine⟨_,rfl,g,_,c.dx,gF c ov ct,JKn T,rfl,hR.go,rfl,_,rfl,_,rfl,?_⟩
 exact⟨g,c,ov,ct,S,rg,l,z,rfl,hR,hz,hm,q⟩
def JRk (T:Txt K mg A):dj P w K mg base b8 4 A.au "span_of":=⟨_,_,_,_,[],[],T.aA,T.u6,SN T,T.tL,.nil⟩
theorem Ht (T:Txt K mg A):bw P w K mg base b8 1 A.nD A.rn ["rank","how","number"] Wf:=by
 refine T.Jr.ok Hg (fun vs H Q E h=>?_) (fun cdv A0 outer s H vs Q E hr h=>?_)
 · obtain⟨r,h,m,rfl,_⟩:=h
   rfl
 obtain⟨r,h,m,rfl,q⟩:=h
 refine⟨_,(zC (yA (zO xG (pv 0) yF (zQ _)) (zE (zN xM)) zR)
     (zC (yA (zO yY (pv 1) yB (zQ _)) (zE (zN (xJ sE (pv 0) (pv 2) (zQ _)))) zR)
     (zC (yA (zO yY (pv 1) yB (zQ _)) (zE (zN (xJ Fb (pv 0) (pv 2) (zQ _)))) zR)
     (zE (zN (xJ yY (pv 0) (pv 2) (zQ _))))))),?_⟩
 cases r with
 | none=>exact⟨_,rfl,rfl,_,rfl,bM q⟩
 | some i =>
   have q':Q (.bl (if h="<" then decide (i<m) else if h=">" then decide (m<i) else decide (i=m))) H:=q
   refine⟨_,rfl,rfl,_,rfl,aW ?_⟩
   by_cases h1:h="<"
   · rw [if_pos h1] at q'
     exact⟨_,rfl,rfl,_,rfl,Nf h1 ⟨_,rfl,_,rfl,_,_,rfl,rfl,q'⟩⟩
   rw [if_neg h1] at q'
   refine⟨_,rfl,rfl,_,rfl,Eb h1 ?_⟩
   by_cases h2:h=">"
   · rw [if_pos h2] at q'
     exact⟨_,rfl,rfl,_,rfl,Nf h2 ⟨_,rfl,_,rfl,_,_,rfl,rfl,q'⟩⟩
   rw [if_neg h2] at q'
   refine⟨_,rfl,rfl,_,rfl,Eb h2 ⟨_,rfl,_,rfl,rfl,?_⟩⟩
   have e:=wN i m
   rw [← e] at q'
   exact q'
theorem lq (T:Txt K mg A):bw P w K mg base b8 2 A.d8 A.gO ["span","how","number"] (akj K):=by
 have J1:=Ht (P:=P) (w:=w) (base:=base) T
 refine T.tE.ok gH (fun vs H Q E h=>?_) (fun cdv A0 outer s H vs Q E hr h=>?_)
 · obtain⟨a,lo,hi,h,m,rfl,_⟩:=h
   rfl
 obtain⟨a,lo,hi,h,m,rfl,ha',q⟩:=h
 have ha:ik K H a [.int lo,.int hi]:=ik.of ha'
 refine⟨_,(zC (yA (zO xG (pv 0) yF (zQ _)) (zE (zN xM)) zR)
     (zC (FP (i:=3) gH.nd rfl ‹0› (xC (x:="end") (M:=["span","how","number","at_ends","between"]) rfl (by rfl)) rfl (Vb (pv 0)) (fun _ _ _ _=>(zZ J1 ‹hr› rfl T.Ju T.Jt T.Js .nil zT (zA (pv 0) (zA (pv 2) (zA (pv 3) zD))))))
     (zC (yA (yO (zY (Oh rfl) (by rfl) T.aaf Bt.all (zA (pv 3) zD))) (zE (zN xM)) zR)
     (zC (zX (i:=4) gH.nd rfl ‹0› (NP sE sE (zW yR (pv 0) zG (fun _ _=>rfl)) (pv 2) (zW yR (pv 0) zG (fun _ _=>rfl))))
     (zE (zN (oR (PW.pt (qM (yO (zY (Pb rfl) (by rfl) T.aag PyProof.Rows.boot_any (zA (pv 3) zD))) (mj (yO (pv 4))))) yF xM))))))),?_⟩
 · skip
   refine⟨_,rfl,rfl,_,rfl,aW ?_⟩
   refine⟨_,rfl,a,rfl,⟨_,ha⟩,?_⟩
   refine Ov (xs:=[.int lo,.int hi]) (by show 2≤sizeLine;decide) (fun i ys H'=>H=H'∧ys=([lo,hi].take i).map (fun e=>V.bl (m7 (some e) h m))) ⟨rfl,rfl⟩ (fun i ys H' hw=>by rw [← hw.1];exact ha) (fun i x ys H' hx hl hw=>?_) (fun ys H' hl hw pe hpe=>?_)
   · obtain⟨rfl,rfl⟩:=hw
     obtain⟨e,he,rfl⟩:=sV (l:=[lo,hi]) (f:=V.int) hx
     refine⟨_,rfl,_,rfl,_,rfl,some e,h,m,rfl,rfl,?_⟩
     rw [List.take_succ,he,List.map_append];rfl
   obtain⟨rfl,rfl⟩:=hw
   have q':∀ H',aB H H'→Q (tv (if (m7 (some lo) h m && m7 (some hi) h m)=true then some true else if (m7 (some lo) h m || m7 (some hi) h m || (decide (lo<m) && decide (m<hi)))=true then none else some false)) H':=q
   have se:=zF hpe (.lst [.bl (m7 (some lo) h m),.bl (m7 (some hi) h m)])
   have b0:jc [V.int lo,V.int hi] ((0:Nat):Int)=some (.int lo):=zP rfl
   have b1:jc [V.int lo,V.int hi] ((1:Nat):Int)=some (.int hi):=zP rfl
   dsimp only [List.length_cons,List.length_nil,List.take,List.map] at hpe ⊢
   generalize m7 (some lo) h m=c0 at q' se hpe ⊢
   generalize m7 (some hi) h m=c1 at q' se hpe ⊢
   refine⟨_,rfl,pe,[c0,c1],rfl,b7.of zB,_,rfl,mW (fun d=>?_) (fun d=>?_)⟩
   · have d':(c0 && c1)=true:=by rw [← d];cases c0 <;> cases c1 <;> rfl
     have:=q' _ se
     rw [if_pos d'] at this
     exact this
   have d':¬ (c0 && c1)=true:=fun e=>d (by rw [← e];cases c0 <;> cases c1 <;> rfl)
   have q2:=q' _ se
   rw [if_neg d'] at q2
   have fin:∀ (bt:Bool),bt=(decide (lo<m) && decide (m<hi))→Q (tv (if (c0 || c1 || bt)=true then none else some false)) (upd H pe (.lst [.bl c0,.bl c1])):=fun bt e=>by rw [e];exact q2
   refine⟨_,rfl,a,_,_,_,rfl,rfl,se.Vy ha,b0,_,rfl,_,_,rfl,rfl,_,rfl,mW (fun d=>?_) (fun d=>?_)⟩
   · refine⟨_,rfl,a,_,_,_,rfl,rfl,se.Vy ha,b1,_,_,rfl,rfl,?_⟩
     have f:=fin (decide (m<hi)) (by rw [show decide (lo<m)=true from d];rfl)
     refine⟨_,rfl,pe,[c0,c1],rfl,b7.of zB,_,rfl,?_⟩
     cases c0 <;> cases c1 <;> first | exact bM f | skip
     exact aW ⟨_,rfl,_,rfl,by generalize decide (m<hi)=b at f ⊢;cases b <;> first | exact bM f | exact aW f⟩
   · have f:=fin false (by rw [show decide (lo<m)=false from Bool.eq_false_iff.mpr d];rfl)
     refine⟨_,rfl,pe,[c0,c1],rfl,b7.of zB,_,rfl,?_⟩
     cases c0 <;> cases c1 <;> first | exact bM f | skip
     exact aW ⟨_,rfl,_,rfl,aW f⟩
theorem J2 (T:Txt K mg A):bw P w K mg base b8 6 A.o6 A.o7 ["self","look"] (Wg A 1):=by
 have ie:=lq (P:=P) (w:=w) (base:=base) T
 refine T.Gk.ok DR (fun vs H Q E h=>?_) (fun cdv A0 outer s H vs Q E hr h=>?_)
 · obtain⟨a,N,t,p,S,rg,l,rfl,_⟩:=h
   rfl
 obtain⟨a,N,t,p,S,rg,l,rfl,⟨dx,ha⟩,hj,⟨cs,g,c,ov,ct,L,R⟩,hz,hm,q⟩:=h
 refine⟨_,(zE (zN (zZ ie ‹hr› rfl T.lQ T.lO T.lN .nil zT (zA (Gb (k:=4) J0 (fun _ _ _ _ _ _ _ _ hr=>Hq hr) ‹hr› zT (pv 1) (zA (zK (pv 0) rfl) zD)) (zA yB (zA (zK (pv 0) rfl) zD)))))),?_⟩
 have R1:=R.kq (Uj L)
 cases t with
 | cmp _ _=>cases hj
 | is b =>
   have ha:H a=some (oIs A dx (N 1) (V9 b) (.int (Uh b))):=ha
   refine⟨_,rfl,p,rfl,_,rfl,a,_,dx,_,_,rfl,ha,T.kW,T.kY,rfl,.str (N 1),cs,_,rfl,L,?_⟩
   refine⟨_,rfl,g,_,c.dx,gF c ov ct,JRk T,rfl,R1.go,rfl,_,rfl,_,rfl,?_⟩
   refine⟨g,c,ov,ct,S,rg,l,N 1,rfl,R1,hz,hm,fun t H' s' ht=>?_⟩
   have s2:=aB.back s'
   have Er:=s2 _ _ (Cw ht)
   exact⟨_,rfl,a,_,dx,_,_,rfl,s2 _ _ ha,T.kW,T.pK,rfl,t,_,_,_,_,rfl,Er,fun H3 s3=>q _ (s2.trans s3)⟩
theorem J3 (T:Txt K mg A):bw P w K mg base b8 6 A.iJ A.iK ["self","look"] (Wg A 0):=by
 have ie:=lq (P:=P) (w:=w) (base:=base) T
 refine T.uU.ok ug (fun vs H Q E h=>?_) (fun cdv A0 outer s H vs Q E hr h=>?_)
 · obtain⟨a,N,t,p,S,rg,l,rfl,_⟩:=h
   rfl
 obtain⟨a,N,t,p,S,rg,l,rfl,⟨dx,ha⟩,hj,⟨cs,g,c,ov,ct,L,R⟩,hz,hm,q⟩:=h
 refine⟨_,(zE (zN (zZ ie ‹hr› rfl T.lQ T.lO T.lN .nil zT (zA (Gb (k:=4) J0 (fun _ _ _ _ _ _ _ _ hr=>Hq hr) ‹hr› zT (pv 1) (zA (zK (pv 0) rfl) zD)) (zA (zK (pv 0) rfl) (zA (zK (pv 0) rfl) zD)))))),?_⟩
 have R1:=R.kq (Uj L)
 cases t with
 | is _=>cases hj
 | cmp hw m =>
   have ha:H a=some (Ui A dx (N 0) hw m):=ha
   refine⟨_,rfl,p,rfl,_,rfl,a,_,dx,_,_,rfl,ha,T.bh,T.du,rfl,.str (N 0),cs,_,rfl,L,?_⟩
   refine⟨_,rfl,g,_,c.dx,gF c ov ct,JRk T,rfl,R1.go,rfl,_,rfl,_,rfl,?_⟩
   refine⟨g,c,ov,ct,S,rg,l,N 0,rfl,R1,hz,hm,fun t H' s' ht=>?_⟩
   have s2:=aB.back s'
   have Er:=s2 _ _ (Cw ht)
   exact⟨_,rfl,a,_,dx,_,_,rfl,s2 _ _ ha,T.bh,T.eV,rfl,_,rfl,a,_,dx,_,_,rfl,s2 _ _ ha,T.bh,T.cM,rfl,t,_,_,_,_,rfl,Er,fun H3 s3=>q _ (s2.trans s3)⟩
def akk (T:Txt K mg A) {k:Nat} (hk:6≤k):dj P w K mg base b8 k A.m5 "sure":=⟨_,_,_,_,[],[],T.kW,T.JT,(J2 T).mono hk,T.Gm,.nil⟩
def akl (T:Txt K mg A) {k:Nat} (hk:6≤k):dj P w K mg base b8 k A.bZ "sure":=⟨_,_,_,_,[],[],T.bh,T.wC,(J3 T).mono hk,T.uV,.nil⟩
theorem Wi (T:Txt K mg A) {k:Nat} (hk:6≤k) {N:Nm}{H:Hp}{a:Addr}{t:At}{f:Bool} (h:Bp A N H f a t):∃ (C dx:Addr) (fs:List (Str × V)) (M:dj P w K mg base b8 k C "sure"),H a=some (.ins C dx fs)∧fs.lookup ‹"sure"› = none∧M.qX=[]∧M.sp=Wg A t.i:=by
 obtain⟨dx,h⟩:=h
 cases t with
 | is b=>exact⟨_,dx,_,akk T hk,h,rfl,rfl,rfl⟩
 | cmp hw m=>exact⟨_,dx,_,akl T hk,h,rfl,rfl,rfl⟩
theorem J4 (T:Txt K mg A):bw P w K mg base b8 7 A.nH A.nJ ["self","look"] (aas A):=by
 refine T.Du.ok qR (fun vs H Q E h=>?_) (fun cdv A0 outer s H vs Q E hr h=>?_)
 · obtain⟨a,dx,b,N,t,p,S,rg,l,rfl,_⟩:=h
   rfl
 obtain⟨a,dx,b,N,t,p,S,rg,l,rfl,ha,hb,hL,hz,hm,q⟩:=h
 obtain⟨J5,e1⟩:∃ k:Nat,k=6:=⟨_,rfl⟩
 refine⟨_,(zC (zX (i:=2) qR.nd rfl ‹0› (yD (CX:=b8) (k:=J5) ‹hr› zT (zK (pv 0) rfl) (zA (pv 1) zD)))
     (zE (zN (oR (zO xG (pv 2) yF (zQ _)) yF (RZ (pv 2)))))),?_⟩
 subst e1
 obtain⟨C,SQ,fs,M,h1,h2,m1,m2⟩:=Wi (P:=P) (w:=w) (base:=base) T (Nat.le_refl _) hb
 refine⟨_,rfl,a,_,dx,_,_,rfl,ha,T.pL,T.lW,rfl,b,C,SQ,fs,M,rfl,h1,h2,_,rfl,?_⟩
 rw [m1,m2]
 refine⟨b,N,t,p,S,rg,l,rfl,hb,rfl,hL,hz,hm,fun H' s'=>?_⟩
 have q':=q H' s'
 cases e:Ho rg N t with
 | none=>rw [e] at q';exact⟨_,rfl,rfl,_,rfl,bM q'⟩
 | some b=>rw [e] at q';exact⟨_,rfl,rfl,_,rfl,aW ⟨_,rfl,.inl ⟨b,rfl,q'⟩⟩⟩
def akm (T:Txt K mg A):dj P w K mg base b8 7 A.oh "sure":=⟨_,_,_,_,[],[],T.pL,T.Hd,J4 T,T.Dv,.nil⟩
def Wj (A:cQ) (j:Nat):Sp:=fun vs H Q _=>∃ a N t,vs=[.ref a]∧Bp A N H true a t∧t.i=j∧∀ p H',aB H H'→H' p=some (.lst [.ref a])→Q (.ref p) H'
def aau (A:cQ):Sp:=fun vs H Q _=>∃ a dx b N t,vs=[.ref a]∧H a=some (Yr A dx b)∧Bp A N H true b t∧∀ p H',aB H H'→H' p=some (.lst [.ref b])→Q (.ref p) H'
theorem Hu (T:Txt K mg A):bw P w K mg base b8 1 A.nF A.nG ["self"] (Wj A 1):=by
 refine T.Ds.ok Bl (fun vs H Q E h=>?_) (fun cdv A0 outer s H vs Q E hr h=>?_)
 · obtain⟨a,N,t,rfl,_⟩:=h
   rfl
 obtain⟨a,N,t,rfl,ha,hj,q⟩:=h
 refine⟨_,(zE (zN (yN (zA (pv 0) zD)))),?_⟩
 exact⟨_,rfl,(by show 1≤sizeLine;decide),fun p hp=>q p _ (zF hp _) zB⟩
theorem Hv (T:Txt K mg A):bw P w K mg base b8 1 A.gP A.gQ ["self"] (Wj A 0):=by
 refine T.tG.ok rW (fun vs H Q E h=>?_) (fun cdv A0 outer s H vs Q E hr h=>?_)
 · obtain⟨a,N,t,rfl,_⟩:=h
   rfl
 obtain⟨a,N,t,rfl,ha,hj,q⟩:=h
 refine⟨_,(zE (zN (yN (zA (pv 0) zD)))),?_⟩
 exact⟨_,rfl,(by show 1≤sizeLine;decide),fun p hp=>q p _ (zF hp _) zB⟩
theorem aav (T:Txt K mg A) {k:Nat} (hk:1≤k) {N:Nm}{H:Hp}{a:Addr}{t:At}{f:Bool} (h:Bp A N H f a t):∃ (C dx:Addr) (fs:List (Str × V)) (M:dj P w K mg base b8 k C "atoms"),H a=some (.ins C dx fs)∧fs.lookup ‹"atoms"› = none∧M.qX=[]∧M.sp=Wj A t.i:=by
 obtain⟨dx,h⟩:=h
 cases t with
 | is b=>exact⟨_,dx,_,⟨_,_,_,_,[],[],T.kW,T.Hc,(Hu T).mono hk,T.Dt,.nil⟩,h,rfl,rfl,rfl⟩
 | cmp hw m=>exact⟨_,dx,_,⟨_,_,_,_,[],[],T.bh,T.vd,(Hv T).mono hk,T.tH,.nil⟩,h,rfl,rfl,rfl⟩
theorem Hw (T:Txt K mg A):bw P w K mg base b8 2 A.mD A.mF ["self"] (aau A):=by
 refine T.Ay.ok z8 (fun vs H Q E h=>?_) (fun cdv A0 outer s H vs Q E hr h=>?_)
 · obtain⟨a,dx,b,N,t,rfl,_⟩:=h
   rfl
 obtain⟨a,dx,b,N,t,rfl,ha,hb,q⟩:=h
 obtain⟨Ec,e1⟩:∃ k:Nat,k=1:=⟨_,rfl⟩
 refine⟨_,(zE (zN (uH (CX:=b8) (k:=Ec) ‹hr› zT (zK (pv 0) rfl)))),?_⟩
 subst e1
 obtain⟨C,SQ,fs,M,h1,h2,m1,m2⟩:=aav (P:=P) (w:=w) (base:=base) T (Nat.le_refl _) hb
 refine⟨_,rfl,a,_,dx,_,_,rfl,ha,T.pL,T.lW,rfl,b,C,SQ,fs,M,rfl,h1,h2,?_⟩
 dsimp only [LC]
 rw [m1,m2]
 exact⟨b,N,t,rfl,hb,rfl,q⟩
end
theorem yE {H:Hp}{x dx:Addr} (nx:H x=none) (nd:H dx=none) (o:HO):aB H (upd (upd H dx (.own x)) x o):=fun b u e=>by
 rw [zI (zH e nx),zI (zH e nd)];exact e
def Wk (A:cQ) (j:Nat):Sp:=fun vs H Q _=>∃ a N t d kvs S,vs=[.ref a,.ref d]∧Bp A N H false a t∧t.i=j∧H d=some (.dK kvs)∧Sw A H kvs S∧GS N S∧∀ a' H',aB H H'→Bp A N H' true a' t→Q (.ref a') H'
def aaw (A:cQ):Sp:=fun vs H Q _=>∃ a dx b N t d kvs S,vs=[.ref a,.ref d]∧H a=some (Yr A dx b)∧Bp A N H false b t∧H d=some (.dK kvs)∧Sw A H kvs S∧GS N S∧∀ a' H',aB H H'→K6 A N H' true (.ref a') (t,true)→Q (.ref a') H'
def aax (A:cQ):Sp:=fun vs H Q _=>∃ x N s p S rg l,vs=[x,.ref p]∧K6 A N H true x s∧Hs A H p S rg l∧Hr S (N s.1.i)∧N s.1.i∈l∧Ho rg N s.1=none∧∀ b H',aB H H'→Bp A N H' true b s.1→Q (.ref b) H'
theorem Hs.same {A:cQ}{H H':Hp} (s:aB H H') {p:Addr}{S:List mR}{rg:Rg}{l:List Str} (h:Hs A H p S rg l):Hs A H' p S rg l:=by
 obtain⟨cs,g,c,ov,ct,L,R⟩:=h
 exact⟨cs,g,c,ov,ct,SM s L,R.kq (.of s)⟩
section
variable {P:Program}{w:World}{K:W.Frag}{mg:Str→Option Value}{base:Heap}{A:cQ}
theorem jg {t c d:Value}{a b:Bool} (h1:W.kitOne K t c=some a) (h2:W.kitOne K t d=some b):W.kitAny K t [c,d]=some (a || b):=by
 show (match W.kitOne K t c with | some true=>some true | some false=>(match W.kitOne K t d with | some true=>some true | some false=>some false | none=>none) | none=>none)=_
 rw [h1,h2]
 cases a <;> cases b <;> rfl
theorem aay (b:Bool):xV YN (V9 b)=.bl b:=by
 cases b
 · show xV YN ‹"no"› = _;decide +kernel
 · show xV YN ‹"yes"› = _;decide +kernel
theorem Bq (T:Txt K mg A):bw P w K mg base b8 6 A.kj A.km ["self","kinds"] (Wk A 1):=by
 have mO:=Ab (P:=P) (w:=w) (base:=base) T
 refine T.yz.ok jz (fun vs H Q E h=>?_) (fun cdv A0 outer s H vs Q E hr h=>?_)
 · obtain⟨a,N,t,d,kvs,S,rfl,_⟩:=h
   rfl
 obtain⟨a,N,t,d,kvs,S,rfl,⟨dx,ha⟩,hj,hd,hK,hG,q⟩:=h
 refine⟨_,(zC (zX (i:=2) jz.nd rfl ‹0› (Fp (ji hr) (pv 1) (zK (pv 0) rfl) ⟨rfl,rfl,rfl,rfl⟩))
     (zC (yA (mq (yO (zY qd (by rfl) T.aH Bt.isinstance (zA (pv 2) (zA (yC (zA (vI rfl T.Ss) (zA (vI rfl T.VP) zD))) zD))))) (zE nZ) zR)
     (zC (zX (i:=3) jz.nd rfl ‹0› (yD (CX:=b8) (k:=4) ‹hr› zT (pv 2) (zA (zK (pv 0) rfl) zD)))
     (zC (yA (mq (yO (yD (CX:=b8) (k:=4) ‹hr› zT (pv 2) (zA (pv 3) zD)))) (zE nZ) zR)
     (zE (zN (yX T.Ue mO ‹hr› rfl T.aah T.Ax .nil zT (zA (zK (pv 0) rfl) (zA (zK (pv 0) rfl) (zA (yD (CX:=b8) (k:=4) ‹hr› zT (pv 2) (zA (pv 3) zD)) zD)))))))))),?_⟩
 cases t with
 | cmp _ _=>cases hj
 | is b =>
   have ha:H a=some (oIs A dx (N 1) (V9 b) .non):=ha
   obtain⟨k,dk,k1,k2⟩:=hK _ hG.q1
   have k1:dq kvs (.inr (N 1))=some (.ref k):=k1
   have k2:H k=some (.ins A.bj dk [("low",.int 0),("high",.int 1)]):=k2
   refine⟨_,rfl,d,rfl,.inl ⟨kvs,.inl hd⟩,_,rfl,a,_,dx,_,_,rfl,ha,T.kW,T.kY,rfl,_,il.k (k:=.inr (N 1)) hd,?_⟩
   rw [k1]
   refine⟨_,rfl,(by show 2≤sizeLine;decide),fun t1 ht1=>?_⟩
   have s1:=zF ht1 (.tup [.ref A.bj,.ref A.Jl])
   have ha1:=s1 _ _ ha
   have Yt:=s1 _ _ k2
   refine⟨_,t1,_,_,_,rfl,zB,rfl,.old (T.PN _ k dk _ Yt),jg T.zg T.Bc,_,rfl,aW ?_⟩
   refine⟨_,rfl,k,_,dk,_,JAn T,rfl,Yt,rfl,_,rfl,a,_,dx,_,_,rfl,ha1,T.kW,T.rT,rfl,_,V9 b,rfl,?_⟩
   rw [aay]
   refine⟨_,rfl,k,_,dk,_,JF T,rfl,Yt,rfl,_,rfl,_,some b,rfl,_,rfl,aW ?_⟩
   refine⟨_,rfl,a,_,dx,_,_,rfl,ha1,T.kW,T.kY,rfl,_,rfl,a,_,dx,_,_,rfl,ha1,T.kW,T.rT,rfl,?_⟩
   refine⟨_,rfl,k,_,dk,_,JK T,rfl,Yt,rfl,_,rfl,_,b,rfl,?_⟩
   intro x Qp nx nd ne
   refine⟨x,Qp,_,_,_,rfl,zB,rfl,?_⟩
   rw [yH]
   exact q x _ (s1.trans (yE nx nd _)) ⟨Qp,zB⟩
theorem Br (T:Txt K mg A):bw P w K mg base b8 6 A.fL A.fM ["self","kinds"] (Wk A 0):=by
 have gJ:=Ac (P:=P) (w:=w) (base:=base) T
 refine T.qC.ok pP (fun vs H Q E h=>?_) (fun cdv A0 outer s H vs Q E hr h=>?_)
 · obtain⟨a,N,t,d,kvs,S,rfl,_⟩:=h
   rfl
 obtain⟨a,N,t,d,kvs,S,rfl,⟨dx,ha⟩,hj,hd,hK,hG,q⟩:=h
 refine⟨_,(zC (yA (PW.pt (jn (zO (KR (ji hr)) (zK (pv 0) rfl) (pv 1) (by rfl)) (xP (mq (yO (zY qd (by rfl) T.aH Bt.isinstance (zA (wQ (ji hr) (pv 1) (zK (pv 0) rfl) (fun _ _=>rfl)) (zA (yC (zA (vI rfl T.Sq) (zA (vI rfl T.R9) zD))) zD)))))))) (zE nZ) zR)
     (zE (zN (yX T.zy gJ ‹hr› rfl T.Cv T.kJ .nil zT (zA (zK (pv 0) rfl) (zA (zK (pv 0) rfl) (zA (zK (pv 0) rfl) zD))))))),?_⟩
 cases t with
 | is _=>cases hj
 | cmp hw m =>
   have ha:H a=some (Ui A dx (N 0) hw m):=ha
   obtain⟨lo,hi,h0⟩:=hG.q0
   obtain⟨k,dk,k1,k2⟩:=hK _ h0
   have k1:dq kvs (.inr (N 0))=some (.ref k):=k1
   have k2:H k=some (.ins A.cI dk [("low",.int lo),("high",.int hi)]):=k2
   have g0:il H d (.str (N 0)) (some (.ref k)):=by
     have:=il.k (k:=.inr (N 0)) hd
     rw [k1] at this
     exact this
   refine⟨_,rfl,a,_,dx,_,_,rfl,ha,T.bh,T.du,rfl,_,rfl,d,_,rfl,g0,_,rfl,bM ?_⟩
   refine⟨_,rfl,_,rfl,a,_,dx,_,_,rfl,ha,T.bh,T.du,rfl,d,_,rfl,g0,(by show 2≤sizeLine;decide),fun t1 ht1=>?_⟩
   have s1:=zF ht1 (.tup [.ref A.cI,.ref A.Dp])
   have ha1:=s1 _ _ ha
   have Yt:=s1 _ _ k2
   refine⟨_,t1,_,_,_,rfl,zB,rfl,.old (T.PQ _ k dk _ Yt),jg T.zj T.zm,_,rfl,aW ?_⟩
   refine⟨_,rfl,a,_,dx,_,_,rfl,ha1,T.bh,T.du,rfl,_,rfl,a,_,dx,_,_,rfl,ha1,T.bh,T.eV,rfl,_,rfl,a,_,dx,_,_,rfl,ha1,T.bh,T.cM,rfl,?_⟩
   intro x Qp nx nd ne
   refine⟨x,Qp,_,_,_,rfl,zB,rfl,?_⟩
   rw [yH]
   exact q x _ (s1.trans (yE nx nd _)) ⟨Qp,zB⟩
theorem aaz (T:Txt K mg A) {k:Nat} (hk:6≤k) {N:Nm}{H:Hp}{a:Addr}{t:At}{f:Bool} (h:Bp A N H f a t):∃ (C dx:Addr) (fs:List (Str × V)) (M:dj P w K mg base b8 k C "settled"),H a=some (.ins C dx fs)∧fs.lookup ‹"settled"› = none∧M.qX=[]∧M.sp=Wk A t.i:=by
 obtain⟨dx,h⟩:=h
 cases t with
 | is b=>exact⟨_,dx,_,⟨_,_,_,_,[],[],T.kW,T.Bj,(Bq T).mono hk,T.za,.nil⟩,h,rfl,rfl,rfl⟩
 | cmp hw m=>exact⟨_,dx,_,⟨_,_,_,_,[],[],T.bh,T.rU,(Br T).mono hk,T.qD,.nil⟩,h,rfl,rfl,rfl⟩
theorem Bs (T:Txt K mg A):bw P w K mg base b8 7 A.jw A.jx ["self","kinds"] (aaw A):=by
 have lu:=Ad (P:=P) (w:=w) (base:=base) T
 refine T.wk.ok vg (fun vs H Q E h=>?_) (fun cdv A0 outer s H vs Q E hr h=>?_)
 · obtain⟨a,dx,b,N,t,d,kvs,S,rfl,_⟩:=h
   rfl
 obtain⟨a,dx,b,N,t,d,kvs,S,rfl,ha,hb,hd,hK,hG,q⟩:=h
 obtain⟨MN,e1⟩:∃ k:Nat,k=6:=⟨_,rfl⟩
 refine⟨_,(zE (zN (yX T.Qc lu ‹hr› rfl T.Ud T.pG .nil zT (zA (yD (CX:=b8) (k:=MN) ‹hr› zT (zK (pv 0) rfl) (zA (pv 1) zD)) zD)))),?_⟩
 subst e1
 obtain⟨C,SQ,fs,M,h1,h2,m1,m2⟩:=aaz (P:=P) (w:=w) (base:=base) T (Nat.le_refl _) hb
 refine⟨_,rfl,a,_,dx,_,_,rfl,ha,T.pL,T.lW,rfl,b,C,SQ,fs,M,rfl,h1,h2,_,rfl,?_⟩
 rw [m1,m2]
 refine⟨b,N,t,d,kvs,S,rfl,hb,rfl,hd,hK,hG,fun b' H' s' hb'=>?_⟩
 intro x Qp nx nd ne
 refine⟨x,Qp,_,rfl,zB,rfl,?_⟩
 rw [yH]
 have s2:=yE nx nd (Yr A Qp b')
 exact q x _ (s'.trans s2) ⟨x,rfl,.inr ⟨rfl,Qp,b',zB,hb'.kq (.of s2)⟩⟩
theorem mAt (T:Txt K mg A) {N:Nm}{H:Hp}{x:V}{s:Sy} (h:K6 A N H true x s):∃ (a C dx:Addr) (fs:List (Str × V)) (M:dj P w K mg base b8 2 C "atoms"),x=.ref a∧H a=some (.ins C dx fs)∧fs.lookup ‹"atoms"› = none∧M.qX=[]∧∀ (Q:V→Hp→Prop) E,(∀ b la H1,aB H H1→H1 la=some (.lst [.ref b])→Bp A N H1 true b s.1→Q (.ref la) H1)→M.sp [x] H Q E:=by
 obtain⟨a,rfl,h⟩:=h
 rcases h with ⟨_,h⟩ | ⟨_,dx,b,h,hb⟩
 · obtain⟨C,dx,fs,M,h1,h2,m1,m2⟩:=aav (P:=P) (w:=w) (base:=base) T (k:=2) (by decide) h
   refine⟨a,C,dx,fs,M,rfl,h1,h2,m1,fun Q E q=>?_⟩
   rw [m2]
   exact⟨a,N,s.1,rfl,h,rfl,fun p H' s' e=>q a p H' s' e (h.kq (.of s'))⟩
 · refine⟨a,_,dx,_,⟨_,_,_,_,[],[],T.pL,T.DP,Hw T,T.Az,.nil⟩,rfl,h,rfl,rfl,fun Q E q=>?_⟩
   exact⟨a,dx,b,N,s.1,rfl,h,hb,fun p H' s' e=>q b p H' s' e (hb.kq (.of s'))⟩
theorem mQ (T:Txt K mg A):bw P w K mg base b8 7 A.cA A.dZ ["self","look"] (aax A):=by
 refine T.oG.ok gZ (fun vs H Q E h=>?_) (fun cdv A0 outer s H vs Q E hr h=>?_)
 · obtain⟨x,N,s,p,S,rg,l,rfl,_⟩:=h
   rfl
 obtain⟨x,N,s,p,S,rg,l,rfl,hs,hL,hz,hm,hn,q⟩:=h
 obtain⟨Ec,e1⟩:∃ k:Nat,k=2:=⟨_,rfl⟩
 obtain⟨J5,e2⟩:∃ k:Nat,k=6:=⟨_,rfl⟩
 refine⟨_,(zC (jd PassesOwn.never rfl (xA (uH (CX:=b8) (k:=Ec) ‹hr› zT (pv 0))) (yL (i:=2) gZ.nd rfl ‹0›) (zE (yA (zO xG (yD (CX:=b8) (k:=J5) ‹hr› zT (pv 2) (zA (pv 1) zD)) yF (zQ _)) (zE (zN (pv 2))) zR)))
     (zE (zN yF))),?_⟩
 subst e1 e2
 obtain⟨a1,C1,dx1,fs1,M,ey,h1,hl,hdv,hsp⟩:=mAt (P:=P) (w:=w) (base:=base) T hs
 refine⟨_,rfl,a1,C1,dx1,fs1,M,ey,h1,hl,?_⟩
 dsimp only [LC]
 rw [hdv]
 refine hsp _ _ fun b la H1 s1 e1 hb=>?_
 refine⟨la,rfl,⟨_,b7.of e1⟩,?_⟩
 refine xL (xs:=[.ref b]) (fun i σ G=>i=0∧G=H1∧σ=[some x,some (.ref p),none]) ⟨rfl,rfl,rfl⟩ (fun i σ G _ hh=>by rw [hh.2.1];exact b7.of e1) (fun i y σ G hy hw=>?_) (fun σ G hw=>?_)
 · obtain⟨rfl,rfl,rfl⟩:=hw
   cases hy
   obtain⟨C2,SQ,fs2,M2,h2,hl2,ako,akp⟩:=Wi (P:=P) (w:=w) (base:=base) T (k:=6) (Nat.le_refl _) hb
   refine⟨_,rfl,b,C2,SQ,fs2,M2,rfl,h2,hl2,_,rfl,?_⟩
   rw [ako,akp]
   refine⟨b,N,s.1,p,S,rg,l,rfl,hb,rfl,hL.same s1,hz,hm,fun H2 s2=>?_⟩
   rw [hn]
   exact⟨rfl,_,rfl,bM ⟨_,rfl,q _ _ (s1.trans s2) (hb.kq (.of s2))⟩⟩
 · exact absurd hw.1 (Nat.succ_ne_zero 0)
theorem mSt (T:Txt K mg A) {N:Nm}{H:Hp}{x:V}{s:Sy} (h:K6 A N H false x s):∃ (a C dx:Addr) (fs:List (Str × V)) (M:dj P w K mg base b8 7 C "settled"),x=.ref a∧H a=some (.ins C dx fs)∧fs.lookup ‹"settled"› = none∧M.qX=[]∧∀ (Q:V→Hp→Prop) E d kvs S,H d=some (.dK kvs)→Sw A H kvs S→GS N S→(∀ y H1,aB H H1→K6 A N H1 true y s→Q y H1)→M.sp [x,.ref d] H Q E:=by
 obtain⟨t,n⟩:=s
 obtain⟨a,rfl,h⟩:=h
 rcases h with ⟨e,h⟩ | ⟨e,dx,b,h,hb⟩
 · cases e
   obtain⟨C,dx,fs,M,h1,h2,m1,m2⟩:=aaz (P:=P) (w:=w) (base:=base) T (k:=7) (by decide) h
   refine⟨a,C,dx,fs,M,rfl,h1,h2,m1,fun Q E d kvs S hd hK hG q=>?_⟩
   rw [m2]
   exact⟨a,N,t,d,kvs,S,rfl,h,rfl,hd,hK,hG,fun a' H' s' h'=>q _ _ s' ⟨a',rfl,.inl ⟨rfl,h'⟩⟩⟩
 · cases e
   refine⟨a,_,dx,_,⟨_,_,_,_,[],[],T.pL,T.zz,Bs T,T.wu,.nil⟩,rfl,h,rfl,rfl,fun Q E d kvs S hd hK hG q=>?_⟩
   exact⟨a,dx,b,N,t,d,kvs,S,rfl,h,hb,hd,hK,hG,fun a' H' s' h'=>q _ _ s' h'⟩
theorem mSu (T:Txt K mg A) {N:Nm}{H:Hp}{x:V}{s:Sy} (h:K6 A N H true x s):∃ (a C dx:Addr) (fs:List (Str × V)) (M:dj P w K mg base b8 7 C "sure"),x=.ref a∧H a=some (.ins C dx fs)∧fs.lookup ‹"sure"› = none∧M.qX=[]∧∀ H1 (Q:V→Hp→Prop) E p S rg l,K6 A N H1 true x s→Hs A H1 p S rg l→Hr S (N s.1.i)→N s.1.i∈l→(∀ H',aB H1 H'→Q (tv (tri rg N s)) H')→M.sp [x,.ref p] H1 Q E:=by
 obtain⟨t,n⟩:=s
 obtain⟨a,rfl,h⟩:=h
 rcases h with ⟨e,h⟩ | ⟨e,dx,b,h,hb⟩
 · cases e
   obtain⟨C,dx,fs,M,h1,h2,m1,m2⟩:=Wi (P:=P) (w:=w) (base:=base) T (k:=7) (by decide) h
   refine⟨a,C,dx,fs,M,rfl,h1,h2,m1,fun H1 Q E p S rg l hS hL hz hm q=>?_⟩
   rw [m2]
   obtain⟨a',ea,hS⟩:=hS
   cases ea
   rcases hS with ⟨_,hS⟩ | ⟨z,_⟩
   · exact⟨a,N,t,p,S,rg,l,rfl,hS,rfl,hL,hz,hm,q⟩
   · cases z
 · cases e
   refine⟨a,_,dx,_,akm T,rfl,h,rfl,rfl,fun H1 Q E p S rg l hS hL hz hm q=>?_⟩
   obtain⟨a',ea,hS⟩:=hS
   cases ea
   rcases hS with ⟨z,_⟩ | ⟨_,Qp,b',h',hb'⟩
   · cases z
   · exact⟨a,Qp,b',N,t,p,S,rg,l,rfl,h',hb',hL,hz,hm,q⟩
theorem mFo (T:Txt K mg A) {N:Nm}{H:Hp}{x:V}{s:Sy} (h:K6 A N H true x s):∃ (a C dx:Addr) (fs:List (Str × V)) (M:dj P w K mg base b8 7 C "first_open"),x=.ref a∧H a=some (.ins C dx fs)∧fs.lookup ‹"first_open"› = none∧M.qX=[]∧M.sp=aax A:=by
 obtain⟨t,n⟩:=s
 obtain⟨a,rfl,h⟩:=h
 rcases h with ⟨_,dx,h⟩ | ⟨_,dx,b,h,_⟩
 · cases t with
   | is b=>exact⟨a,_,dx,_,⟨_,_,_,_,[],[],T.kW,T.u9,mQ T,T.d7,.nil⟩,rfl,h,rfl,rfl,rfl⟩
   | cmp hw m=>exact⟨a,_,dx,_,⟨_,_,_,_,[],[],T.bh,T.oH,mQ T,T.d7,.nil⟩,rfl,h,rfl,rfl,rfl⟩
 · exact⟨a,_,dx,_,⟨_,_,_,_,[],[],T.pL,T.t7,mQ T,T.d7,.nil⟩,rfl,h,rfl,rfl,rfl⟩
end
def keyOf (z:Str):List Key:=[.inr z,.inl 0]
def jM (n:Str):List V:=[.str ‹"ask"›,.str n,.int 0]
def Bu:List V:=[.str ‹"end"›]
def nT (H:Hp) (x:V) (t:List V):Prop:=∃ a,x=.ref a∧H a=some (.tup t)
theorem nT.kq {H H':Hp} (f:Kq H H') {x:V}{t:List V} (h:nT H x t):nT H' x t:=by
 obtain⟨a,e,h1⟩:=h
 exact⟨a,e,f _ _ h1 trivial⟩
abbrev Ct:=Option (Str × Int)
def Ng (H:Hp) (v:V):Ct→Prop
 | none=>v=.non
 | some q=>nT H v [.str q.1,.int 0,.int q.2]
theorem Ng.kq {H H':Hp} (f:Kq H H') {v:V}{t:Ct} (h:Ng H v t):Ng H' v t:=by
 cases t with
 | none=>exact h
 | some q=>exact nT.kq f h
structure Gs where
 l:List Str
 L:List (List V)
 D:List Str
 ov:Bool
 ct:Ct
structure Yu (A:cQ) (N:Nm) (H0:Hp) (c:GA) (S:List mR) (rg:Rg) (Pt:Addr) (td:Array Value):Prop where
 pa:Ql A N H0 c.pa S
 bx:∃ b,H0 c.bx=some (.dT b)∧∀ r,jD S r→(∃ t,dq b (keyOf r.nm)=some (.ref t)∧H0 t=some (.tup [.int (rg r.nm).1,.int (rg r.nm).2]))∨(dq b (keyOf r.nm)=none∧rg r.nm=(r.lo,r.hi))
 tb:H0 Pt=some (.lD td)
 kd:∃ kvs,H0 c.kd=some (.dK kvs)∧Sw A H0 kvs S
 ed:∃ kvs,H0 c.ed=some (.dK kvs)∧Ys kvs S
 tg:H0 c.tg=some (.dK [])
 gs:GS N S
structure gK (A:cQ) (N:Nm) (H0:Hp) (c:GA) (S:List mR) (rg:Rg) (Pt:Addr) (td:Array Value) (g:Addr) (H:Hp) (s:Gs):Prop where
 same:aB H0 H
 cst:Yu A N H0 c S rg Pt td
 ng:H0 g=none
 J6:H0 c.aq=none
 Es:H0 c.lg=none
 J7:H0 c.db=none
 ld:c.lg≠c.db
 go:∃ cv,H g=some (Wc A c s.ov cv)∧Ng H cv s.ct
 aq:∃ kvs,H c.aq=some (.dK kvs)∧Wd H kvs rg s.l∧∀ z d,dq kvs (.inr z)=some (.ref d)→H0 d=none∧d≠c.aq∧∀ z',dq kvs (.inr z')=some (.ref d)→z'=z
 lg:∃ ts,H c.lg=some (.lst ts)∧Paired (nT H) ts s.L
 db:H c.db=some (.lst (s.D.map V.str))
section
variable {A:cQ}{N:Nm}{H0 H H':Hp}{c:GA}{S:List mR}{rg:Rg}{Pt:Addr}{td:Array Value}{g:Addr}{s:Gs}
theorem gK.rk (h:gK A N H0 c S rg Pt td g H s):∃ cv,We A H g c s.ov cv S rg s.l∧Ng H cv s.ct:=by
 obtain⟨k,k1,k2⟩:=h.cst.ed
 obtain⟨a,a1,a2,_⟩:=h.aq
 obtain⟨cv,g1,g2⟩:=h.go
 exact⟨cv,⟨g1,h.same _ _ h.cst.tg,⟨k,h.same _ _ k1,k2⟩,⟨a,a1,a2⟩⟩,g2⟩
theorem gK.mono (h:gK A N H0 c S rg Pt td g H s) (f:aB H H'):gK A N H0 c S rg Pt td g H' s:=by
 obtain⟨a,a1,a2,a3⟩:=h.aq
 obtain⟨t,t1,t2⟩:=h.lg
 obtain⟨cv,g1,g2⟩:=h.go
 exact⟨h.same.trans f,h.cst,h.ng,h.J6,h.Es,h.J7,h.ld,⟨cv,f _ _ g1,g2.kq (.of f)⟩,⟨a,f _ _ a1,a2.kq (.of f),a3⟩,⟨t,f _ _ t1,zJ t2 fun _ _=>nT.kq (.of f)⟩,f _ _ h.db⟩
theorem lA {H0 H:Hp}{m:Addr} (s:aB H0 H) (n:H0 m=none) (o:HO):aB H0 (upd H m o):=fun x u hx=>by
 rw [zI (zH hx n)];exact s _ _ hx
theorem Qq {m:Addr}{o u:HO}{e:List V} (hm:H m=some u) (hu:∀ t,u≠.tup t) {x:V} (h:nT H x e):nT (upd H m o) x e:=by
 obtain⟨a,e,h1⟩:=h
 exact⟨a,e,by rw [zI (yP h1 hm fun z=>hu _ z.symm)];exact h1⟩
theorem vh {m:Addr}{o u:HO}{L:List (List V)} (hm:H m=some u) (hu:∀ t,u≠.tup t) {ts:List V} (h:Paired (nT H) ts L):Paired (nT (upd H m o)) ts L:=zJ h fun x t z=>Qq hm hu z
theorem Ae {m:Addr}{o u:HO}{v:V}{t:Ct} (hm:H m=some u) (hu:∀ t,u≠.tup t) (h:Ng H v t):Ng (upd H m o) v t:=by
 cases t with
 | none=>exact h
 | some q=>exact Qq hm hu h
theorem Ed {m:Addr}{o u:HO}{l:List Str}{kvs:List (Key × V)} (hm:H m=some u) (hu:∀ t,u≠.dK t) (hv:∀ t,u≠.tup t) (h:Wd H kvs rg l):Wd (upd H m o) kvs rg l:=⟨h.1,fun z hz=>by
 obtain⟨d,t,h2,h3,h4⟩:=h.2.1 z hz
 exact⟨d,t,h2,by rw [zI (yP h3 hm fun z=>hu _ z.symm)];exact h3,by rw [zI (yP h4 hm fun z=>hv _ z.symm)];exact h4⟩,h.2.2⟩
theorem gK.setG (h:gK A N H0 c S rg Pt td g H s) (o:Bool) {cv:V}{ct:Ct} (hc:Ng H cv ct):gK A N H0 c S rg Pt td g (upd H g (Wc A c o cv)) ⟨s.l,s.L,s.D,o,ct⟩:=by
 obtain⟨a,a1,a2,a3⟩:=h.aq
 obtain⟨t,t1,t2⟩:=h.lg
 obtain⟨Yv,g1,g2⟩:=h.go
 refine⟨lA h.same h.ng _,h.cst,h.ng,h.J6,h.Es,h.J7,h.ld,⟨cv,zB,Ae g1 (fun _ z=>by cases z) hc⟩,⟨a,?_,Ed g1 (fun _ z=>by cases z) (fun _ z=>by cases z) a2,a3⟩,⟨t,?_,vh g1 (fun _ z=>by cases z) t2⟩,?_⟩
 · rw [zI (yP a1 g1 (by intro z;cases z))];exact a1
 · rw [zI (yP t1 g1 (by intro z;cases z))];exact t1
 · rw [zI (yP h.db g1 (by intro z;cases z))];exact h.db
theorem gK.app (h:gK A N H0 c S rg Pt td g H s) {ts:List V} (t1:H c.lg=some (.lst ts)) {t:Addr}{e:List V} (ht:H t=some (.tup e)):gK A N H0 c S rg Pt td g (upd H c.lg (.lst (ts++[.ref t]))) ⟨s.l,s.L++[e],s.D,s.ov,s.ct⟩:=by
 obtain⟨a,a1,a2,a3⟩:=h.aq
 obtain⟨t',t1',t2⟩:=h.lg
 obtain⟨cv,g1,g2⟩:=h.go
 rw [t1] at t1';cases t1'
 refine⟨lA h.same h.Es _,h.cst,h.ng,h.J6,h.Es,h.J7,h.ld,⟨cv,?_,Ae t1 (fun _ z=>by cases z) g2⟩,⟨a,?_,Ed t1 (fun _ z=>by cases z) (fun _ z=>by cases z) a2,a3⟩,⟨_,zB,yW (vh t1 (fun _ z=>by cases z) t2) (.cons ⟨t,rfl,?_⟩ .nil)⟩,?_⟩
 · rw [zI (yP g1 t1 (by intro z;cases z))];exact g1
 · rw [zI (yP a1 t1 (by intro z;cases z))];exact a1
 · rw [zI (yP ht t1 (by intro z;cases z))];exact ht
 · rw [zI (Ne.symm h.ld)];exact h.db
theorem gK.dbl (h:gK A N H0 c S rg Pt td g H s) (z:Str):gK A N H0 c S rg Pt td g (upd H c.db (.lst (s.D.map V.str++[.str z]))) ⟨s.l,s.L,s.D++[z],s.ov,s.ct⟩:=by
 obtain⟨a,a1,a2,a3⟩:=h.aq
 obtain⟨t,t1,t2⟩:=h.lg
 obtain⟨cv,g1,g2⟩:=h.go
 refine⟨lA h.same h.J7 _,h.cst,h.ng,h.J6,h.Es,h.J7,h.ld,⟨cv,?_,Ae h.db (fun _ z=>by cases z) g2⟩,⟨a,?_,Ed h.db (fun _ z=>by cases z) (fun _ z=>by cases z) a2,a3⟩,⟨t,?_,vh h.db (fun _ z=>by cases z) t2⟩,?_⟩
 · rw [zI (yP g1 h.db (by intro z;cases z))];exact g1
 · rw [zI (yP a1 h.db (by intro z;cases z))];exact a1
 · rw [zI h.ld];exact t1
 · rw [zB,List.map_append];rfl
theorem Yu.lD (h:Yu A N H0 c S rg Pt td) (Q3:Array Value):Yu A N (upd H0 Pt (.lD Q3)) c S rg Pt Q3:=by
 have k:Kq H0 (upd H0 Pt (.lD Q3)):=fun b o e p=>by
   rw [zI]
   · exact e
   · rintro rfl;rw [h.tb] at e;cases e;exact p
 obtain⟨c1,⟨b,c2,c3⟩,c4,⟨kv,c5,c6⟩,⟨e,c7,c8⟩,c9,c10⟩:=h
 refine⟨c1.kq k,⟨b,k _ _ c2 trivial,fun r hr=>?_⟩,zB,⟨kv,k _ _ c5 trivial,c6.kq k⟩,⟨e,k _ _ c7 trivial,c8⟩,k _ _ c9 trivial,c10⟩
 rcases c3 r hr with ⟨t,h1,h2⟩ | h1
 · exact .inl ⟨t,h1,k _ _ h2 trivial⟩
 · exact .inr h1
theorem gK.lD (h:gK A N H0 c S rg Pt td g H s) {Q3:Array Value} (f:∀ b o,b≠Pt→H b=some o→H' b=some o) (ht:H' Pt=some (.lD Q3)):gK A N (upd H0 Pt (.lD Q3)) c S rg Pt Q3 g H' s:=by
 have hP:=h.same _ _ h.cst.tb
 have k:Kq H H':=fun b o e p=>f b o (by rintro rfl;rw [hP] at e;cases e;exact p) e
 have nn:∀ {b:Addr},H0 b=none→upd H0 Pt (.lD Q3) b=none:=fun {b} e=>by rw [zI (Ne.symm (zH h.cst.tb e))];exact e
 obtain⟨a,a1,a2,a3⟩:=h.aq
 obtain⟨t,t1,t2⟩:=h.lg
 obtain⟨cv,g1,g2⟩:=h.go
 refine⟨fun b o e=>?_,h.cst.lD Q3,nn h.ng,nn h.J6,nn h.Es,nn h.J7,h.ld,⟨cv,k _ _ g1 trivial,g2.kq k⟩,⟨a,k _ _ a1 trivial,a2.kq k,fun z d hz=>⟨nn (a3 z d hz).1,(a3 z d hz).2⟩⟩,⟨t,k _ _ t1 trivial,zJ t2 fun _ _=>nT.kq k⟩,k _ _ h.db trivial⟩
 by_cases e1:b=Pt
 · subst e1;rw [zB] at e;cases e;exact ht
 · rw [zI e1] at e;exact f b o e1 (h.same _ _ e)
theorem Wl {H:Hp}{a:Addr}{o:HO} (h:H a=some o):upd H a o=H:=by
 funext b
 by_cases e:b=a
 · subst e;rw [zB,h]
 · rw [zI e]
end
def Qs (A:cQ) (Pt:Addr):Sp:=fun vs H Q _=>∃ N H0 c S rg td g s t e,vs=[.ref g,.ref t]∧gK A N H0 c S rg Pt td g H s∧H t=some (.tup e)∧s.L.length≤1000∧∀ H',gK A N H0 c S rg Pt td g H' ⟨s.l,s.L++[e],s.D,true,s.ct⟩→Q .non H'
def SX (A:cQ) (Pt:Addr):Sp:=fun vs H Q _=>∃ N H0 c S rg td g s z k,vs=[.ref g,.str z,.int 0,.int k]∧gK A N H0 c S rg Pt td g H s∧∀ H',gK A N H0 c S rg Pt td g H' ⟨s.l,s.L,s.D,true,some (z,k)⟩→Q .non H'
section
variable {P:Program}{w:World}{K:W.Frag}{mg:Str→Option Value}{base:Heap}{A:cQ}{Pt:Addr}
theorem S6 (T:Txt K mg A):bw P w K mg base b8 1 A.fJ A.fK ["self","row"] (Qs A Pt):=by
 refine T.qy.ok pO (fun vs H Q E h=>?_) (fun cdv A0 outer s H vs Q E hr h=>?_)
 · obtain⟨N,H0,c,S,rg,td,g,s,t,e,rfl,_⟩:=h
   rfl
 obtain⟨N,H0,c,S,rg,td,g,s,t,e,rfl,hG,ht,hl,k⟩:=h
 refine⟨_,(zC (yQ (vD PySem.F.plainAttrs_list PySem.F.slot_list_append PySem.F.type_list_append iw (zK (pv 0) rfl) (zA (pv 1) zD)))
     (zE (yG (pv 0) xM rfl))),?_⟩
 obtain⟨ts,t1,t2⟩:=hG.lg
 obtain⟨cv,g1,g2⟩:=hG.go
 have tl:=zU t2
 refine⟨_,rfl,g,_,c.dx,_,_,rfl,g1,T.aA,T.jJ,rfl,.inl ⟨rfl,_,b7.of t1⟩,_,rfl,c.lg,_,_,rfl,rfl,t1,yJ (m:=1000000) (by omega),?_⟩
 have G1:=hG.app t1 ht
 obtain⟨Yv,g1',g2'⟩:=G1.go
 refine⟨_,rfl,g,_,c.dx,_,rfl,g1',T.aA,T.cJ,(by show 11<1000;decide),?_⟩
 exact k _ (G1.setG true g2')
theorem Qt (T:Txt K mg A):bw P w K mg base b8 1 A.gr A.gw ["self","question","thing","cut"] (SX A Pt):=by
 refine T.rH.ok qL (fun vs H Q E h=>?_) (fun cdv A0 outer s H vs Q E hr h=>?_)
 · obtain⟨N,H0,c,S,rg,td,g,s,z,k,rfl,_⟩:=h
   rfl
 obtain⟨N,H0,c,S,rg,td,g,s,z,k,rfl,hG,q⟩:=h
 refine⟨_,(zC (yG (pv 0) (yC (zA (pv 1) (zA (pv 2) (zA (pv 3) zD)))) rfl)
     (zE (yG (pv 0) xM rfl))),?_⟩
 refine⟨_,rfl,_,rfl,_,rfl,(by show 3≤sizeLine;decide),fun p hp=>?_⟩
 have s1:=zF hp (.tup [.str z,.int 0,.int k])
 have G1:=hG.mono s1
 obtain⟨cv,g1,g2⟩:=G1.go
 have hc:Ng (upd H p (.tup [.str z,.int 0,.int k])) (.ref p) (some (z,k)):=⟨p,rfl,zB⟩
 refine⟨_,rfl,g,_,c.dx,_,rfl,g1,T.aA,T.eZ,(by show 11<1000;decide),?_⟩
 have G2:=G1.setG s.ov hc
 obtain⟨Yv,g1',g2'⟩:=G2.go
 refine⟨_,rfl,g,_,c.dx,_,rfl,zB,T.aA,T.cJ,(by show 11<1000;decide),?_⟩
 refine q _ (G2.setG true (cv:=.ref p) (ct:=some (z,k)) ?_)
 exact Ae g1 (fun _ z=>by cases z) hc
def JSp (T:Txt K mg A):dj P w K mg base b8 4 A.au "split_at":=⟨_,_,_,_,[],[],T.aA,T.tX,(Qt (Pt:=Pt) T).mono (by decide),T.rJ,.nil⟩
end
end jB
set_option maxHeartbeats 4000000
namespace L2
open PySem PySem.Spec PyProof.Rows PySem.Calls
theorem S7 {X:Cx}:jb X (compareOp .Is) (fun x y H Q=>∃ (o:Option Bool) (d:Bool),(match o with | none=>x=.non | some b=>x=.bl b)∧y=.bl d∧Q (.bl (decide (o=some d))) H):=by
 intro pins s σ H x y v u Q I rx ry h
 obtain⟨o,d,hx,rfl,q⟩:=h
 cases ry
 cases o with
 | none =>
   have hx:x=.non:=hx
   subst hx
   cases rx
   exact wpAny_pure ⟨.bl _,H,I,rfl,q⟩
 | some b =>
   have hx:x=.bl b:=hx
   subst hx
   cases rx
   refine is_bool ⟨.bl _,H,I,rfl,?_⟩
   have e:decide (some b=some d)=(b == d):=by cases b <;> cases d <;> rfl
   rw [e] at q
   exact q
end L2
namespace jB
open PySem L2
seal PE PT PW PA PS nU PG vX PI PO my jb An cL lC sJ uE PC vZ
local macro_rules | `(tactic| walk_at "rd1") => `(tactic| first
 | (refine And.intro rfl ?_)
 | (refine And.intro (by assumption) ?_)
 | (refine And.intro (fun _ e=>e) ?_)
 | (refine And.intro (aF.str _) ?_) | (refine And.intro (aF.int _) ?_) | (refine And.intro (aF.bl _) ?_) | (refine And.intro aF.non ?_)
 | (refine bM ?_) | (refine aW ?_)
 | (apply Exists.intro))
local macro_rules | `(tactic| walk_at "rd") => `(tactic| repeat (walk_at "rd1"))
def MP (m lo:Int):Int:=if lo<m then m - 1 else m
def Ef (t:At) (lo:Int):Int:=if t.h="<" then t.m - 1 else if t.h=">" then t.m else MP t.m lo
def akr:Sp:=fun vs H Q _=>∃ m lo,vs=[.int m,.int lo]∧Q (.int (MP m lo)) H
def aaB (A:cQ):Sp:=fun vs H Q _=>∃ a N t lo,vs=[.ref a,.int lo]∧Bp A N H true a t∧Q (.int (Ef t lo)) H
def aks (A:cQ) (Pt:Addr):Sp:=fun vs H Q _=>∃ N H0 c S rg td g s b t,vs=[.ref g,.ref b,.int 0]∧gK A N H0 c S rg Pt td g H s∧Bp A N H true b t∧N t.i∈s.l∧∀ H',gK A N H0 c S rg Pt td g H' ⟨s.l,s.L,s.D,true,some (N t.i,Ef t (rg (N t.i)).1)⟩→Q .non H'
theorem GS.ask {N:Nm}{S:List mR} (h:GS N S) (t:At):Hr S (N t.i):=by
 cases t with
 | is _=>exact⟨_,h.q1,rfl⟩
 | cmp _ _=>obtain⟨lo,hi,q⟩:=h.q0;exact⟨_,q,rfl⟩
section
variable {P:Program}{w:World}{K:W.Frag}{mg:Str→Option Value}{base:Heap}{A:cQ}{Pt:Addr}
theorem J8 (T:Txt K mg A):bw P w K mg base b8 1 A.qg A.uJ ["number","low"] akr:=by
 refine T.Ms.ok JW (fun vs H Q E h=>?_) (fun cdv A0 outer s H vs Q E hr h=>?_)
 · obtain⟨m,lo,rfl,_⟩:=h
   rfl
 obtain⟨m,lo,rfl,q⟩:=h
 refine⟨_,(zE (zN (oR (zO sE (pv 1) (pv 0) (zQ _)) (zV uB (pv 0) zG) (pv 0)))),?_⟩
 unfold MP at q
 refine⟨_,rfl,_,rfl,_,_,rfl,rfl,_,rfl,mW (fun d=>?_) (fun d=>?_)⟩
 · rw [if_pos (of_decide_eq_true d)] at q
   exact⟨_,rfl,_,_,rfl,rfl,q⟩
 · rw [if_neg (fun z=>d (decide_eq_true z))] at q
   exact⟨_,rfl,q⟩
theorem MT (T:Txt K mg A):bw P w K mg base b8 2 A.tD A.yd ["atom","low"] (aaB A):=by
 have Cy:=J8 (P:=P) (w:=w) (base:=base) T
 refine T.Py.ok MJ (fun vs H Q E h=>?_) (fun cdv A0 outer s H vs Q E hr h=>?_)
 · obtain⟨a,N,t,lo,rfl,_⟩:=h
   rfl
 obtain⟨a,N,t,lo,rfl,⟨dx,ha⟩,q⟩:=h
 refine⟨_,(zC (yA (yO (zY yS (by rfl) T.aH Bt.isinstance (zA (pv 0) (zA (vI rfl T.akd) zD)))) (zE (zN (zZ Cy ‹hr› rfl T.Ci T.Cg T.Ce .nil zT (zA (zK (pv 0) rfl) (zA (pv 1) zD))))) zR)
     (zC (yA (zO yY (zK (pv 0) rfl) yB (zQ _)) (zE (zN (zV uB (zK (pv 0) rfl) zG))) zR)
     (zC (yA (zO yY (zK (pv 0) rfl) yB (zQ _)) (zE (zN (zK (pv 0) rfl))) zR)
     (zE (zN (zZ Cy ‹hr› rfl T.Ci T.Cg T.Ce .nil zT (zA (zK (pv 0) rfl) (zA (pv 1) zD)))))))),?_⟩
 unfold Ef at q
 cases t with
 | is b =>
   have ha:H a=some (oIs A dx (N 1) (V9 b) (.int (Uh b))):=ha
   have q:Q (.int (MP (Uh b) lo)) H:=by
     rw [if_neg (by show ‹"="› ≠ ‹"<"›;decide +kernel),if_neg (by show ‹"="› ≠ ‹">"›;decide +kernel)] at q
     exact q
   refine⟨_,rfl,_,_,_,_,rfl,rfl,.old (T.aaj H a dx _ ha),T.PL,_,rfl,bM ?_⟩
   exact⟨_,rfl,a,_,dx,_,_,rfl,ha,T.kW,T.pK,rfl,_,rfl,_,_,rfl,q⟩
 | cmp hw m =>
   have ha:H a=some (Ui A dx (N 0) hw m):=ha
   have q:Q (.int (if hw="<" then m - 1 else if hw=">" then m else MP m lo)) H:=q
   refine⟨_,rfl,_,_,_,_,rfl,rfl,.old (T.JV H a dx _ ha),T.Bd,_,rfl,aW ?_⟩
   refine⟨_,rfl,a,_,dx,_,_,rfl,ha,T.bh,T.eV,rfl,rfl,_,rfl,?_⟩
   by_cases h1:hw="<"
   · rw [if_pos h1] at q
     exact Nf h1 ⟨_,rfl,a,_,dx,_,_,rfl,ha,T.bh,T.cM,rfl,_,_,rfl,rfl,q⟩
   rw [if_neg h1] at q
   refine Eb h1 ⟨_,rfl,a,_,dx,_,_,rfl,ha,T.bh,T.eV,rfl,rfl,_,rfl,?_⟩
   by_cases h2:hw=">"
   · rw [if_pos h2] at q
     exact Nf h2 ⟨_,rfl,a,_,dx,_,_,rfl,ha,T.bh,T.cM,rfl,q⟩
   rw [if_neg h2] at q
   exact Eb h2 ⟨_,rfl,a,_,dx,_,_,rfl,ha,T.bh,T.cM,rfl,_,rfl,_,_,rfl,q⟩
theorem Hx (T:Txt K mg A):bw P w K mg base b8 5 A.gA A.gB ["self","atom","thing"] (aks A Pt):=by
 have Qu:=MT (P:=P) (w:=w) (base:=base) T
 refine T.rK.ok jC (fun vs H Q E h=>?_) (fun cdv A0 outer s H vs Q E hr h=>?_)
 · obtain⟨N,H0,c,S,rg,td,g,s,b,t,rfl,_⟩:=h
   rfl
 obtain⟨N,H0,c,S,rg,td,g,s,b,t,rfl,hG,hb,hm,q⟩:=h
 obtain⟨sr,e1⟩:∃ k:Nat,k=3:=⟨_,rfl⟩
 obtain⟨pX,e2⟩:∃ k:Nat,k=2:=⟨_,rfl⟩
 obtain⟨J9,e3⟩:∃ k:Nat,k=4:=⟨_,rfl⟩
 refine⟨_,(zE (yA (zO (KR (ji hr)) (zK (pv 1) rfl) (zK (pv 0) rfl) (by rfl)) (zE (yQ Pg)) (zC (zX (i:=3) jC.nd rfl ‹0› (zW yR (yD (CX:=b8) (k:=sr) ‹hr› zT (pv 0) (zA (zK (pv 1) rfl) (zA (pv 2) zD))) zG (fun _ _=>rfl)))
     (zE (yQ (yD (CX:=b8) (k:=J9) ‹hr› zT (pv 0) (zA (zK (pv 1) rfl) (zA (yD (CX:=b8) (k:=pX) ‹hr› zT (pv 0) (zA (zK (pv 1) rfl) (zA (pv 2) zD))) (zA (zZ Qu ‹hr› rfl T.PJ T.PB T.Pz .nil zT (zA (pv 1) (zA (pv 3) zD))) zD))))))))),?_⟩
 subst e1 e2 e3
 obtain⟨cv,hR,hc⟩:=hG.rk
 obtain⟨C,dx,fs,f1,f2,f3,f4⟩:∃ C dx fs,H b=some (.ins C dx fs)∧Ak K C∧aX K C "name"∧fs.lookup ‹"name"› = some (.str (N t.i)):=by
   obtain⟨dx,hb⟩:=hb
   cases t with
   | is w=>exact⟨_,dx,_,hb,T.kW,T.kY,rfl⟩
   | cmp hw m=>exact⟨_,dx,_,hb,T.bh,T.du,rfl⟩
 have hz:=hG.cst.gs.ask t
 refine⟨_,rfl,b,C,dx,fs,_,rfl,f1,f2,f3,f4,_,rfl,g,_,c.dx,gF c s.ov cv,_,rfl,hR.go,T.aA,T.gY,rfl,c.tg,_,rfl,il.k (k:=.inr (N t.i)) hR.tg,_,rfl,aW ?_⟩
 refine⟨_,rfl,g,_,c.dx,gF c s.ov cv,JKn T,rfl,hR.go,rfl,_,rfl,b,C,dx,fs,_,rfl,f1,f2,f3,f4,_,rfl,?_⟩
 refine⟨g,c,s.ov,cv,S,rg,s.l,N t.i,rfl,hR,hz,hm,fun u H1 s1 hu=>?_⟩
 have b0:jc [V.int (rg (N t.i)).1,V.int (rg (N t.i)).2] ((0:Nat):Int)=some (.int (rg (N t.i)).1):=zP rfl
 have G1:=hG.mono s1
 have R1:=hR.kq (.of s1)
 refine⟨u,_,_,_,rfl,rfl,ik.of (s1 _ _ hu),b0,?_⟩
 refine⟨_,rfl,g,_,c.dx,gF c s.ov cv,JSp (Pt:=Pt) T,rfl,R1.go,rfl,_,rfl,b,C,dx,fs,_,rfl,s1 _ _ f1,f2,f3,f4,?_⟩
 refine⟨_,rfl,g,_,c.dx,gF c s.ov cv,JOw T,rfl,R1.go,rfl,_,rfl,b,C,dx,fs,_,rfl,s1 _ _ f1,f2,f3,f4,_,rfl,?_⟩
 refine⟨g,c,s.ov,cv,S,rg,s.l,N t.i,rfl,R1,hz,?_⟩
 refine⟨_,rfl,_,rfl,b,N,t,_,rfl,hb.kq (.of s1),?_⟩
 exact⟨N,H0,c,S,rg,td,g,s,_,_,rfl,G1,q⟩
def JSb (T:Txt K mg A) {k:Nat} (hk:5≤k):dj P w K mg base b8 k A.au "split_by":=⟨_,_,_,_,[],[],T.aA,T.tY,(Hx (Pt:=Pt) T).mono hk,T.rM,.nil⟩
end
abbrev uv:Array Value:=dI DL.qual MK
def S8 (rg:Rg) (N:Nm):Sg→Bool
 | none=>true
 | some y=>decide (tri rg N y=some true)
def Ia (rg:Rg) (N:Nm) (s:Gs):Sg→Gs
 | none=>s
 | some y=>if tri rg N y=none then ⟨s.l,s.L,s.D,true,some (N y.1.i,Ef y.1 (rg (N y.1.i)).1)⟩ else s
def akt (A:cQ) (Pt:Addr):Sp:=fun vs H Q _=>∃ N H0 c S rg g s x sg,vs=[.ref g,x,.int 0]∧gK A N H0 c S rg Pt uv g H s∧Wa A N H x sg∧(∀ y,sg=some y→N y.1.i∈s.l)∧∀ H',gK A N H0 c S rg Pt uv g H' (Ia rg N s sg)→Q (.bl (S8 rg N sg)) H'
theorem ysC:∀ y∈DL.ys,(aa aG).names.lookup y=some .cell:=by
 intro y hy
 have hy:y∈(["thing","self"]:List Str):=hy
 rcases List.mem_cons.mp hy with rfl | hy
 · rfl
 · rw [List.mem_singleton.mp hy];rfl
theorem Qv {rg:Rg}{N:Nm}{y:Sy} (h:tri rg N y=none):Ho rg N y.1=none:=by
 unfold tri at h
 split at h
 · cases e:Ho rg N y.1 with
   | none=>rfl
   | some b=>rw [e] at h;cases h
 · exact h
section
variable {P:Program}{w:World}{K:W.Frag}{mg:Str→Option Value}{base:Heap}{A:cQ}
theorem aaC (T:Txt K mg A) (B:BMain mg base) {c0 Pt:Addr} (hc:A.aL.code=.ref c0) (hh:W.codeHdIn K c0 Pt=true):bw P w K mg base b8 8 A.jy A.aL ["self","saying","thing"] (akt A Pt):=by
 refine bw.weak (Pt:=Pt) (q:=DL.qual) (pos:=MK) (sp:=fun vs H Q E=>∃ N H0 c S rg g s x sg,vs=[.ref g,x,.int 0]∧gK A N H0 c S rg Pt uv g H s∧Wa A N H x sg∧(∀ y,sg=some y→N y.1.i∈s.l)∧((sg=none∧Q (.bl true) H)∨(sg≠none∧∀ c' H',gK A N (upd H0 Pt (.lD (uv ++ #[.ref c']))) c S rg Pt (uv ++ #[.ref c']) g H' (Ia rg N s sg)→Q (.bl (S8 rg N sg)) H'))) ?_ ?_
 · refine T.wy.okC fj (fun vs H Q E h=>?_) (fun cdv A0 outer s H vs Q E hcd hr h=>?_)
   · obtain⟨N,H0,c,S,rg,g,s,x,sg,rfl,_⟩:=h
     rfl
   obtain⟨N,H0,c,S,rg,g,s,x,sg,rfl,hG,hS,hm,q⟩:=h
   rw [hc] at hcd
   subst hcd
   refine⟨_,(zC (yA (zO xG (pv 1) yF (zQ _)) (zE (zN xM)) zR)
     (zC (zX (i:=3) fj.nd rfl ‹0› (yD (CX:=b8) (k:=7) (hr.mono (by decide)) zT (pv 1) (zA (zK (pv 0) rfl) zD)))
     (zC (zX (i:=4) fj.nd rfl ‹0› (RX (Pt:=Pt) (pos:=MK) J0 rfl rfl rfl hh B ysC))
     (zC (zX (i:=5) fj.nd rfl ‹0› (Gd (D:=DL) (Pt:=Pt) (O8:=MK) (is:=[2,0]) (k:=7) (hr.mono (by decide)) (pv 3) (zA (pv 4) zD) (fun y hy=>⟨rfl,ysC y hy⟩) (by symm) (.cons rfl (.cons rfl .nil))))
     (zC (yA (zO xG (pv 5) yF (zQ _)) (zE (yQ (yD (CX:=b8) (k:=7) (hr.mono (by decide)) zT (pv 0) (zA (Gd (D:=DL) (Pt:=Pt) (O8:=MK) (is:=[2,0]) (k:=7) (hr.mono (by decide)) (pv 3) (zA (pv 4) zD) (fun y hy=>⟨rfl,ysC y hy⟩) (by symm) (.cons rfl (.cons rfl .nil))) (zA (pv 2) zD))))) zR)
     (zE (zN (xJ S7 (pv 5) xM (zQ _))))))))),?_⟩
   cases sg with
   | none =>
     have hS:x=.non:=hS
     subst hS
     rcases q with ⟨_,q⟩ | ⟨z,_⟩
     · exact⟨_,rfl,rfl,_,rfl,bM q⟩
     · exact absurd rfl z
   | some y =>
     have hS:K6 A N H false x y:=hS
     obtain⟨xa,rfl,_⟩:=id hS
     rcases q with ⟨z,_⟩ | ⟨_,q⟩
     · cases z
     have hm:=hm y rfl
     have hz:=hG.cst.gs.ask y.1
     refine⟨_,rfl,rfl,_,rfl,aW ?_⟩
     obtain⟨a,C,dx,fs,M,ex,ha,hl,m1,m2⟩:=mSt (P:=P) (w:=w) (base:=base) T hS
     obtain⟨cv,hR,_⟩:=hG.rk
     obtain⟨kvs,k1,k2⟩:=hG.cst.kd
     have hT:=hG.same _ _ hG.cst.tb
     refine⟨_,rfl,a,C,dx,fs,M,ex,ha,hl,_,rfl,g,_,c.dx,gF c s.ov cv,_,rfl,hR.go,T.aA,T.kO,rfl,?_⟩
     rw [m1]
     refine m2 _ _ c.kd kvs S (hG.same _ _ k1) (k2.kq (.of hG.same)) hG.cst.gs fun y2 H1 s1 hS1=>?_
     refine⟨s1 _ _ hT,fun p c' H2 np sB hT2 hp hc'=>?_⟩
     have k12:Kq H1 H2:=fun b o e po=>sB b o (by rintro rfl;rw [s1 _ _ hT] at e;cases e;exact po) e
     have G2:=(hG.mono s1).lD (fun b o nb e=>sB b o nb e) hT2
     have hS2:=hS1.kq k12
     obtain⟨a2,C2,SQ,fs2,M2,e2,ha2,hl2,n1,n2⟩:=mSu (P:=P) (w:=w) (base:=base) T hS2
     refine⟨_,rfl,a2,C2,SQ,fs2,M2,e2,ha2,hl2,_,rfl,c',[.int 0,.ref g],hT2,.cons rfl (.cons rfl .nil),fun H3 L=>?_⟩
     rw [n1]
     have lk:∀ {cs:List (Str × Addr)}{Ha Hb:Hp},H2 p=some (Jh DL p cs c')→cs.map (·.1)=DL.ys→aB H2 Ha→gK A N (upd H0 Pt (.lD (uv ++ #[.ref c']))) c S rg Pt (uv ++ #[.ref c']) g Ha s→O6 Ha Hb Pt c' DL.qual cs [.int 0,.ref g]→Kq Ha Hb∧Hs A Hb p S rg s.l:=fun {cs Ha Hb} hp en sa Ga L=>by
       have kk:Kq Ha Hb:=fun b o e po=>L.keep b o e (by rintro rfl;rw [sa _ _ hT2] at e;cases e;exact po) (by rintro rfl;rw [sa _ _ hc'] at e;cases e;exact po)
       obtain⟨Yv,hR',_⟩:=Ga.rk
       exact⟨kk,_,g,c,s.ov,Yv,⟨⟨c',kk _ _ (sa _ _ hp) trivial,L.code⟩,en,L.nd,L.cells⟩,hR'.kq kk⟩
     obtain⟨k23,L3⟩:=lk hp (by rfl) (aB.refl _) G2 L
     refine n2 H3 _ _ p S rg s.l (hS2.kq k23) L3 hz hm fun H4 s4 H5 r5=>?_
     have Uk:=L.same s4 r5
     have G5:=G2.mono Uk
     have hS5:=hS2.kq (.of Uk)
     have q':=fun H'=>q c' H'
     dsimp only [Ia,S8] at q'
     cases e:tri rg N y with
     | some b =>
       rw [e] at q'
       refine⟨_,rfl,rfl,_,rfl,aW ⟨_,rfl,some b,true,rfl,rfl,?_⟩⟩
       refine q' H5 ?_
       rw [if_neg (by intro z;cases z)]
       exact G5
     | none =>
       rw [e] at q'
       refine⟨_,rfl,rfl,_,rfl,bM ?_⟩
       obtain⟨cv5,R5,_⟩:=G5.rk
       obtain⟨a3,C3,dx3,fs3,M3,e3,ha3,hl3,o1,o2⟩:=mFo (P:=P) (w:=w) (base:=base) T hS5
       refine⟨_,rfl,g,_,c.dx,gF c s.ov cv5,JSb (Pt:=Pt) T (by decide),rfl,R5.go,rfl,_,rfl,a3,C3,dx3,fs3,M3,e3,ha3,hl3,_,rfl,c',[.int 0,.ref g],Uk _ _ hT2,.cons rfl (.cons rfl .nil),fun H6 L6=>?_⟩
       rw [o1,o2]
       obtain⟨k56,L6'⟩:=lk hp (by rfl) Uk G5 L6
       refine⟨_,N,y,p,S,rg,s.l,rfl,hS5.kq k56,L6',hz,hm,Qv e,fun b H7 s7 hb H8 r8=>?_⟩
       have s58:=L6.same s7 r8
       have hb8:Bp A N H8 true b y.1:=by
         obtain⟨dx,hb⟩:=hb
         refine⟨dx,r8.new _ _ hb ?_⟩
         cases y.1 <;> (intro _ _ z;cases z)
       refine⟨_,rfl,N,_,c,S,rg,_,g,s,b,y.1,rfl,G5.mono s58,hb8,hm,fun H9 G9=>?_⟩
       refine⟨_,rfl,none,true,rfl,rfl,?_⟩
       refine q' H9 ?_
       rw [if_pos rfl]
       exact G9
 · intro vs H Q E h
   obtain⟨N,H0,c,S,rg,g,s,x,sg,rfl,hG,hS,hm,q⟩:=h
   have hT:=hG.same _ _ hG.cst.tb
   refine⟨hT,N,H0,c,S,rg,g,s,x,sg,rfl,hG,hS,hm,?_⟩
   cases sg with
   | none=>exact .inl ⟨rfl,.inr ⟨hT,q _ hG⟩⟩
   | some y =>
     refine .inr ⟨by simp,fun c' H' G'=>.inl ⟨c',G'.same _ _ zB,q _ ?_⟩⟩
     have:=G'.lD (H':=upd H' Pt (.lD uv)) (Q3:=uv) (fun b o nb e=>by rw [zI nb];exact e) zB
     rw [yH,Wl hG.cst.tb] at this
     exact this
def JSo (T:Txt K mg A) (B:BMain mg base) {c0 Pt:Addr} (hc:A.aL.code=.ref c0) (hh:W.codeHdIn K c0 Pt=true):dj P w K mg base b8 8 A.au "is_so":=⟨_,_,_,_,[],[],T.aA,T.zu,aaC T B hc hh,T.wz,.nil⟩
end
def Hy (s:Gs) (r:Rw):Gs:=⟨s.l++[r.nm],s.L++[jM r.nm],s.D,s.ov,s.ct⟩
def aU (s:Gs) (rs:List Rw):Gs:=rs.foldl Hy s
theorem uw (s:Gs) (rs:List Rw):aU s rs=⟨s.l++rs.map (·.nm),s.L++rs.map (fun r=>jM r.nm),s.D,s.ov,s.ct⟩:=by
 induction rs generalizing s with
 | nil=>unfold aU;simp
 | cons r rs ih =>
   show aU (Hy s r) rs=_
   rw [ih]
   unfold Hy
   simp [List.append_assoc]
section
variable {A:cQ}{N:Nm}{H0 H H2:Hp}{c:GA}{S:List mR}{rg:Rg}{Pt:Addr}{td:Array Value}{g:Addr}{s:Gs}
theorem gK.noted (h:gK A N H0 c S rg Pt td g H s) {d t:Addr}{z:Str}{kvs Qw:List (Key × V)} (a1:H c.aq=some (.dK kvs)) (ht:H t=some (.tup [.int (rg z).1,.int (rg z).2])) (n0:H0 d=none) (nd:d≠c.aq) (hd:H d=none∨∃ u,H d=some (.dK u))
   (st:∀ x o,H x=some o→x≠d→x≠c.aq→H2 x=some o) (e1:H2 c.aq=some (.dK Qw)) (e2:H2 d=some (.dK [(.inl 0,.ref t)])) (v1:dq Qw (.inr z)=some (.ref d)) (v2:∀ y,y≠z→dq Qw (.inr y)=dq kvs (.inr y)) (v3:∀ y,y≠z→dq kvs (.inr y)≠some (.ref d)) (ln:Qw.length≤kvs.length+1) :
   gK A N H0 c S rg Pt td g H2 ⟨s.l++[z],s.L,s.D,s.ov,s.ct⟩:=by
 have nt:∀ {x:Addr}{o:HO},H x=some o→(∀ q,o≠.dK q)→H2 x=some o:=fun {x o} hx hn=>st x o hx (fun e=>by
   subst e
   rcases hd with e | ⟨u,e⟩
   · rw [e] at hx;cases hx
   · rw [e] at hx;cases hx;exact hn _ rfl) (yP hx a1 (hn _))
 obtain⟨kvs',a1',a2,a3⟩:=h.aq
 rw [a1] at a1';cases a1'
 obtain⟨t',t1,t2⟩:=h.lg
 obtain⟨cv,g1,g2⟩:=h.go
 have tp:∀ {x:V}{e:List V},nT H x e→nT H2 x e:=fun {x e} q=>by
   obtain⟨a,ea,q⟩:=q
   exact⟨a,ea,nt q (fun _ z=>by cases z)⟩
 refine⟨fun x o hx=>st x o (h.same _ _ hx) (zH hx n0) (zH hx h.J6),h.cst,h.ng,h.J6,h.Es,h.J7,h.ld,⟨cv,nt g1 (fun _ z=>by cases z),?_⟩,⟨Qw,e1,⟨?_,fun y hy=>?_,fun y hy=>?_⟩,fun y d' hy=>?_⟩,⟨t',nt t1 (fun _ z=>by cases z),zJ t2 fun _ _=>tp⟩,nt h.db (fun _ z=>by cases z)⟩
 · cases hc:s.ct with
   | none=>rw [hc] at g2;exact g2
   | some q=>rw [hc] at g2;exact tp g2
 · have:=a2.1
   simp only [List.length_append,List.length_cons,List.length_nil]
   omega
 · by_cases e:y=z
   · subst e
     exact⟨d,t,v1,e2,nt ht (fun _ z=>by cases z)⟩
   · rcases List.mem_append.mp hy with hy | hy
     · obtain⟨d',t'',c1,c2,c3⟩:=a2.2.1 y hy
       have ne:d'≠d:=fun q=>v3 y e (by rw [← q];exact c1)
       exact⟨d',t'',by rw [v2 y e];exact c1,st _ _ c2 ne (a3 y d' c1).2.1,nt c3 (fun _ z=>by cases z)⟩
     · exact absurd (List.mem_singleton.mp hy) e
 · have e:y≠z:=fun q=>hy (List.mem_append_right _ (List.mem_singleton.mpr q))
   rw [v2 y e]
   exact a2.2.2 y fun q=>hy (List.mem_append_left _ q)
 · by_cases e:y=z
   · subst e
     rw [v1] at hy;cases hy
     refine⟨n0,nd,fun y' hy'=>?_⟩
     by_cases e:y'=y
     · exact e
     · rw [v2 y' e] at hy';exact absurd hy' (v3 y' e)
   · rw [v2 y e] at hy
     obtain⟨b1,b2,b3⟩:=a3 y d' hy
     refine⟨b1,b2,fun y' hy'=>?_⟩
     by_cases e':y'=z
     · subst e'
       rw [v1] at hy';cases hy'
       exact absurd hy (v3 y e)
     · rw [v2 y' e'] at hy';exact b3 y' hy'
end
def Qx (A:cQ) (Pt:Addr):Sp:=fun vs H Q _=>∃ N H0 c S rg td g s z t,vs=[.ref g,.str z,.int 0,.ref t]∧gK A N H0 c S rg Pt td g H s∧H t=some (.tup [.int (rg z).1,.int (rg z).2])∧s.l.length≤1000∧∀ H',gK A N H0 c S rg Pt td g H' ⟨s.l++[z],s.L,s.D,s.ov,s.ct⟩→Q .non H'
def akx (A:cQ):Sp:=fun vs H Q _=>∃ N H0 c S rg Pt td r,vs=[.ref c.bx,.ref c.kd,.str r.nm,.int 0]∧Yu A N H0 c S rg Pt td∧aB H0 H∧jD S r∧∀ t H',aB H H'→H' t=some (.tup [.int (rg r.nm).1,.int (rg r.nm).2])→Q (.ref t) H'
def Ul (A:cQ) (Pt:Addr):Sp:=fun vs H Q _=>∃ N H0 c S rg td g s r,vs=[.ref g,.str r.nm,.int 0]∧gK A N H0 c S rg Pt td g H s∧jD S r∧s.l.length≤100∧s.L.length≤100∧∀ H',gK A N H0 c S rg Pt td g H' (Hy s r)→Q .non H'
def Um (A:cQ) (Pt:Addr):Sp:=fun vs H Q _=>∃ N H0 c S rg g s x sh,vs=[.ref g,x,.int 0]∧gK A N H0 c S rg Pt uv g H s∧s.ov=false∧Qk A N (pU S) H0 x sh∧sh∈S∧s.l.length≤50∧s.L.length≤50∧∀ H',gK A N H0 c S rg Pt uv g H' (aU s sh.2.1)→Q .non H'
section
variable {P:Program}{w:World}{K:W.Frag}{mg:Str→Option Value}{base:Heap}{A:cQ}{Pt:Addr}
theorem S9 (T:Txt K mg A):bw P w K mg base b8 1 A.j8 A.j9 ["self","question","thing","known"] (Qx A Pt):=by
 refine T.yt.ok wJ (fun vs H Q E h=>?_) (fun cdv A0 outer s H vs Q E hr h=>?_)
 · obtain⟨N,H0,c,S,rg,td,g,s,z,t,rfl,_⟩:=h
   rfl
 obtain⟨N,H0,c,S,rg,td,g,s,z,t,rfl,hG,ht,hl,k⟩:=h
 refine⟨_,(zC (yA (zO (yc (ji hr)) (pv 1) (zK (pv 0) rfl) (by rfl)) (zE (wR (ji hr) (zK (pv 0) rfl) (pv 1) oV rfl)) zR)
     (zE (wR (ji hr) (wQ (ji hr) (zK (pv 0) rfl) (pv 1) (fun _ _=>rfl)) (pv 2) (pv 3) rfl))),?_⟩
 obtain⟨kvs,a1,a2,a3⟩:=hG.aq
 obtain⟨cv,g1,g2⟩:=hG.go
 have lk:(gF c s.ov cv).lookup ‹"asked"› = some (.ref c.aq):=rfl
 refine uq (fun σ H1=>∃ kvs d u,σ=[some (.ref g),some (.str z),some (.int 0),some (.ref t)]∧H1 g=some (Wc A c s.ov cv)∧H1 c.aq=some (.dK kvs)∧dq kvs (.inr z)=some (.ref d)∧H1 d=some (.dK u)∧u.length≤1∧∀ H2,(∀ x,x≠d→H2 x=H1 x)→H2 d=some (.dK [(.inl 0,.ref t)])→(putK u (.inl 0) (.ref t)=[(.inl 0,.ref t)]∧gK A N H0 c S rg Pt td g H2 ⟨s.l++[z],s.L,s.D,s.ov,s.ct⟩)) ?_ ?_
 · rintro σ H1 ⟨kvs,d,u,rfl,g1,a1,e1,d1,ul,kk⟩
   have g2:il H1 c.aq (.str z) (some (.ref d)):=by
     have:=il.k (k:=.inr z) a1
     rw [e1] at this
     exact this
   refine⟨_,rfl,_,rfl,g,_,c.dx,_,_,rfl,g1,T.aA,T.eU,lk,_,rfl,c.aq,_,rfl,g2,_,rfl,d,_,rfl,Aq.k (k:=.inl 0) d1 (yJ (m:=10) (by omega)),?_⟩
   have kk1:=kk (upd H1 d (.dK [(.inl 0,.ref t)])) (fun x hx=>zI hx) zB
   rw [kk1.1]
   exact k _ kk1.2
 intro M hN
 refine⟨_,rfl,_,rfl,g,_,c.dx,_,_,rfl,g1,T.aA,T.eU,lk,c.aq,_,rfl,il.k (k:=.inr z) a1,_,rfl,?_⟩
 by_cases hm:z∈s.l
 · obtain⟨d,t0,b2,b3,b4⟩:=a2.2.1 z hm
   rw [b2]
   obtain⟨f1,f2,f3⟩:=a3 z d b2
   refine aW (hN _ _ ⟨kvs,d,_,rfl,g1,a1,b2,b3,Nat.le_refl _,fun H2 e2 h2=>⟨by rfl,?_⟩⟩)
   exact hG.noted a1 ht f1 f2 (.inr ⟨_,b3⟩) (fun x o hx n1 n2=>by rw [e2 x n1];exact hx) (by rw [e2 _ (Ne.symm f2)];exact a1) h2 b2 (fun _ _=>rfl) (fun y hy e=>hy (f3 y e)) (Nat.le_succ _)
 · rw [a2.2.2 z hm]
   refine bM ?_
   intro d hd
   have s1:=zF hd (.dK [])
   have nda:d≠c.aq:=Ne.symm (zH a1 hd)
   have n0:H0 d=none:=yM hG.same hd
   refine⟨_,rfl,g,_,c.dx,_,_,rfl,s1 _ _ g1,T.aA,T.eU,lk,_,rfl,c.aq,_,rfl,Aq.k (k:=.inr z) (s1 _ _ a1) (yJ (m:=1000000) (by have:=a2.1;omega)),hN _ _ ?_⟩
   refine⟨putK kvs (.inr z) (.ref d),d,[],rfl,by rw [zI (yP (s1 _ _ g1) (s1 _ _ a1) (by intro z;cases z))];exact s1 _ _ g1,zB,by rw [xQ,if_pos rfl],by rw [zI nda];exact zB,by decide,fun H2 e2 h2=>⟨by rfl,?_⟩⟩
   refine hG.noted a1 ht n0 nda (.inl hd) (fun x o hx n1 n2=>by rw [e2 x n1,zI n2,zI n1];exact hx) (by rw [e2 _ (Ne.symm nda)];exact zB) h2 (by rw [xQ,if_pos rfl]) (fun y hy=>by rw [xQ,if_neg (fun q=>hy (Sum.inr.inj q))]) (fun y hy e=>?_) (xF kvs (.inr z) (.ref d))
   by_cases hy2:y∈s.l
   · obtain⟨d',_,c1,c2,_⟩:=a2.2.1 y hy2
     rw [e] at c1;cases c1
     rw [hd] at c2;cases c2
   · rw [a2.2.2 y hy2] at e;cases e
theorem Hz (T:Txt K mg A):bw P w K mg base b8 1 A.nM A.rA ["box","kinds","question","k"] (akx A):=by
 refine T.Jv.ok vQ (fun vs H Q E h=>?_) (fun cdv A0 outer s H vs Q E hr h=>?_)
 · obtain⟨N,H0,c,S,rg,Pt,td,r,rfl,_⟩:=h
   rfl
 obtain⟨N,H0,c,S,rg,Pt,td,r,rfl,hC,hs,hr',q⟩:=h
 refine⟨_,(zC (zX (i:=4) vQ.nd rfl ‹0› (wQ (ji hr) (pv 1) (pv 2) (fun _ _=>rfl)))
     (zE (zN (Fq (ji hr) (pv 0) (yC (zA (pv 2) (zA (pv 3) zD))) (yC (zA (zK (pv 4) rfl) (zA (zK (pv 4) rfl) zD))) ⟨rfl,rfl,rfl,rfl⟩)))),?_⟩
 obtain⟨kvs,k1,k2⟩:=hC.kd
 obtain⟨kp,dk,k3,k4⟩:=k2 r hr'
 obtain⟨b,b1,b2⟩:=hC.bx
 refine⟨_,rfl,_,rfl,c.kd,_,rfl,(by rw [← k3];exact il.k (k:=.inr r.nm) (hs _ _ k1)),?_⟩
 refine⟨_,rfl,c.bx,rfl,.inr ⟨b,.inl (hs _ _ b1)⟩,_,rfl,_,rfl,(by show 2≤sizeLine;decide),fun t ht=>?_⟩
 have s1:=zF ht (.tup [.str r.nm,.int 0])
 have kk:=s1 _ _ (hs _ _ k4)
 have cl:Ak K (if r.wh=true then A.cI else A.bj)∧aX K (if r.wh=true then A.cI else A.bj) "low"∧aX K (if r.wh=true then A.cI else A.bj) "high":=by
   cases r.wh
   · exact⟨T.pI,T.tU,T.qO⟩
   · exact⟨T.G7,T.tV,T.qP⟩
 refine⟨_,rfl,kp,_,dk,_,_,rfl,kk,cl.1,cl.2.1,rfl,_,rfl,kp,_,dk,_,_,rfl,kk,cl.1,cl.2.2,rfl,(by show 2≤sizeLine;decide),fun t2 Er=>?_⟩
 have s2:=zF Er (.tup [.int r.lo,.int r.hi])
 refine⟨_,il.t (k:=keyOf r.nm) (s2 _ _ (s1 _ _ (hs _ _ b1))) (s2 _ _ zB),?_⟩
 rcases b2 r hr' with ⟨u,e1,e2⟩ | ⟨e1,e2⟩
 · rw [e1]
   exact q u _ (s1.trans s2) (s2 _ _ (s1 _ _ (hs _ _ e2)))
 · rw [e1]
   refine q t2 _ (s1.trans s2) ?_
   rw [e2];exact zB
def JN (T:Txt K mg A):dj P w K mg base b8 4 A.au "note":=⟨_,_,_,Qx A Pt,[],[],T.aA,T.Bh,(S9 T).mono (by decide),T.yu,.nil⟩
def JSt (T:Txt K mg A):dj P w K mg base b8 4 A.au "stop_with":=⟨_,_,_,Qs A Pt,[],[],T.aA,T.rQ,(S6 T).mono (by decide),T.qz,.nil⟩
theorem Wm (T:Txt K mg A):bw P w K mg base b8 5 A.mG A.mH ["self","question","thing"] (Ul A Pt):=by
 have Ka:=Hz (P:=P) (w:=w) (base:=base) T
 refine T.Ba.ok z9 (fun vs H Q E h=>?_) (fun cdv A0 outer s H vs Q E hr h=>?_)
 · obtain⟨N,H0,c,S,rg,td,g,s,r,rfl,_⟩:=h
   rfl
 obtain⟨N,H0,c,S,rg,td,g,s,r,rfl,hG,hr',hl,hL,k⟩:=h
 obtain⟨Wn,e2⟩:∃ k:Nat,k=4:=⟨_,rfl⟩
 refine⟨_,(zC (yQ (vD PySem.F.plainAttrs_list PySem.F.slot_list_append PySem.F.type_list_append iw (zK (pv 0) rfl) (zA (yC (zA yB (zA (pv 1) (zA (pv 2) zD)))) zD)))
     (zE (yQ (yD (CX:=b8) (k:=Wn) ‹hr› zT (pv 0) (zA (pv 1) (zA (pv 2) (zA (zZ Ka ‹hr› rfl T.Jy T.Jx T.Jw .nil zT (zA (zK (pv 0) rfl) (zA (zK (pv 0) rfl) (zA (pv 1) (zA (pv 2) zD))))) zD))))))),?_⟩
 subst e2
 obtain⟨ts,t1,t2⟩:=hG.lg
 obtain⟨cv,g1,g2⟩:=hG.go
 have tl:=zU t2
 refine⟨_,rfl,g,_,c.dx,gF c s.ov cv,_,rfl,g1,T.aA,T.jJ,rfl,.inl ⟨rfl,_,b7.of t1⟩,_,rfl,_,rfl,(by show 3≤sizeLine;decide),fun t' ht'=>?_⟩
 have s2:=zF ht' (.tup [.str ‹"ask"›,.str r.nm,.int 0])
 refine⟨c.lg,_,_,rfl,rfl,s2 _ _ t1,yJ (m:=1000000) (by omega),?_⟩
 have G2:=(hG.mono s2).app (s2 _ _ t1) (e:=jM r.nm) (t:=t') zB
 obtain⟨cv2,h1,h2⟩:=G2.go
 refine⟨_,rfl,g,_,c.dx,gF c s.ov cv2,JN T (Pt:=Pt),rfl,h1,rfl,_,rfl,_,rfl,_,rfl,g,_,c.dx,gF c s.ov cv2,_,rfl,h1,T.aA,T.tZ,rfl,_,rfl,g,_,c.dx,gF c s.ov cv2,_,rfl,h1,T.aA,T.kO,rfl,_,rfl,_,rfl,?_⟩
 refine⟨N,H0,c,S,rg,Pt,td,r,rfl,hG.cst,G2.same,hr',fun t H3 s3 h3=>?_⟩
 exact⟨N,H0,c,S,rg,td,g,_,r.nm,t,rfl,G2.mono s3,h3,Nat.le_trans hl (by decide),fun H' G'=>k _ G'⟩
def JPu (T:Txt K mg A):dj P w K mg base b8 5 A.au "put":=⟨_,_,_,Ul A Pt,[],[],T.aA,T.DN,Wm T,T.Bb,.nil⟩
variable (B:BMain mg base) {c0:Addr} (hc:A.aL.code=.ref c0) (hh:W.codeHdIn K c0 Pt=true)
include B hc hh
theorem Wo (T:Txt K mg A):bw P w K mg base b8 10 A.eF A.eG ["self","sheet","thing"] (Um A Pt):=by
 refine T.pB.ok ir (fun vs H Q E h=>?_) (fun cdv A0 outer s H vs Q E hr h=>?_)
 · obtain⟨N,H0,c,S,rg,g,s,x,sh,rfl,_⟩:=h
   rfl
 obtain⟨N,H0,c,S,rg,g,s,x,sh,rfl,hG,hov,hx,hsh,hl,hL,k⟩:=h
 obtain⟨Eg,e1⟩:∃ k:Nat,k=8:=⟨_,rfl⟩
 obtain⟨k_put,e2⟩:∃ k:Nat,k=5:=⟨_,rfl⟩
 refine⟨_,(zE (jd PassesOwn.never rfl (xA (zK (pv 1) rfl)) (yL (i:=3) ir.nd rfl ‹0›) (zC (yA (yO (zK (pv 0) rfl)) (zE Rk) zR)
     (zE (yA (mq (yO (zY yS (by rfl) T.aH Bt.isinstance (zA (pv 3) (zA (vI rfl T.PK) zD))))) (zE (yQ Pg)) (zE (yA (yO (yD (CX:=b8) (k:=Eg) ‹hr› zT (pv 0) (zA (zK (pv 3) rfl) (zA (pv 2) zD)))) (zE (yQ (yD (CX:=b8) (k:=k_put) ‹hr› zT (pv 0) (zA (zK (pv 3) rfl) (zA (pv 2) zD))))) zR))))))),?_⟩
 subst e1 e2
 obtain⟨sa,Nb,r1,r2,rs,ws,rfl,a1,a2,a3,a4,a5⟩:=hx
 refine⟨_,rfl,sa,_,Nb,_,_,rfl,hG.same _ _ a1,T.dR,T.jf,rfl,r1,rfl,⟨rs,b7.of (hG.same _ _ a2)⟩,?_⟩
 refine xL (xs:=rs) (fun j σ H'=>∃ v,σ=[some (.ref g),some (.ref sa),some (.int 0),v]∧gK A N H0 c S rg Pt uv g H' (aU s (sh.2.1.take j))) ⟨_,rfl,hG⟩ (fun j σ H2 hj hw=>?_) (fun j x σ H2 hx2 hw=>?_) (fun σ H2 hw=>?_)
 · obtain⟨v,rfl,G⟩:=hw
   exact b7.of (G.same _ _ a2)
 · obtain⟨v,rfl,G⟩:=hw
   obtain⟨r,hr,hR⟩:=yK a4 hx2
   have hst:=take_snoc hr
   have hrow:aU s (sh.2.1.take (j+1))=Hy (aU s (sh.2.1.take j)) r:=by rw [hst];unfold aU;rw [List.foldl_append];rfl
   have h4:(sh.2.1.take j).length≤4:=Nat.le_trans (by rw [List.length_take];exact Nat.min_le_right _ _) (hG.cst.gs.rows sh hsh)
   have rm:r∈sh.2.1:=List.mem_of_getElem? hr
   have el:(aU s (sh.2.1.take j)).l.length≤100∧(aU s (sh.2.1.take j)).L.length≤100∧(aU s (sh.2.1.take j)).ov=false:=by
     rw [uw]
     refine⟨?_,?_,hov⟩
     · simp only [List.length_append,List.length_map];omega
     · simp only [List.length_append,List.length_map];omega
   generalize aU s (sh.2.1.take j)=s2 at G hrow el
   obtain⟨cv,g1,g2⟩:=G.go
   refine⟨_,rfl,g,_,c.dx,gF c s2.ov cv,_,rfl,g1,T.aA,T.cJ,rfl,_,rfl,?_⟩
   rw [el.2.2]
   refine aW ?_
   obtain⟨ra,Q0,kp,dk,rfl,b1,b2⟩:=hR
   refine⟨_,rfl,_,_,_,_,rfl,rfl,.old (T.JS H2 ra Q0 _ (G.same _ _ b1)),T.rN,_,rfl,aW ?_⟩
   refine⟨_,rfl,g,_,c.dx,gF c s2.ov cv,JSo T B hc hh,rfl,g1,rfl,_,rfl,ra,_,Q0,_,_,rfl,G.same _ _ b1,T.pJ,T.vP,rfl,_,rfl,?_⟩
   refine⟨N,H0,c,S,rg,g,s2,.non,none,rfl,G,rfl,(by intro y z;cases z),fun H3 G3=>?_⟩
   obtain⟨cv3,g3,_⟩:=G3.go
   refine⟨_,rfl,bM ?_⟩
   refine⟨_,rfl,g,_,c.dx,gF c s2.ov cv3,JPu T (Pt:=Pt),rfl,g3,rfl,_,rfl,ra,_,Q0,_,_,rfl,G3.same _ _ b1,T.pJ,T.lV,rfl,_,rfl,?_⟩
   exact⟨N,H0,c,S,rg,_,g,s2,r,rfl,G3,⟨sh,hsh,rm⟩,el.1,el.2.1,fun H' G'=>⟨_,rfl,by rw [hrow];exact G'⟩⟩
 · obtain⟨v,rfl,G⟩:=hw
   rw [zU a4,List.take_length] at G
   exact k _ G
def JTr (T:Txt K mg A):dj P w K mg base b8 10 A.au "go_through":=⟨_,_,_,Um A Pt,[],[],T.aA,T.qH,Wo B hc hh T,T.pC,.nil⟩
end
def fW (rg:Rg) (N:Nm) (p:Gs × List Nat) (v:Wy):Gs × List Nat:=if p.1.ov=true then p else (Ia rg N p.1 v.2,if S8 rg N v.2=true then p.2++[v.1] else p.2)
def aM (rg:Rg) (N:Nm) (s:Gs) (ws:List Wy):Gs × List Nat:=ws.foldl (fW rg N) (s,[])
theorem Cz {rg:Rg}{N:Nm}{s:Gs}{ws:List Wy}{v:Wy}:aM rg N s (ws++[v])=fW rg N (aM rg N s ws) v:=by
 unfold aM;rw [List.foldl_append];rfl
theorem akz (rg:Rg) (N:Nm) (s:Gs) (v:Sg):(Ia rg N s v).l=s.l∧(Ia rg N s v).L=s.L∧(Ia rg N s v).D=s.D:=by
 cases v with
 | none=>exact⟨rfl,rfl,rfl⟩
 | some y=>unfold Ia;dsimp only;split <;> exact⟨rfl,rfl,rfl⟩
theorem Wq (rg:Rg) (N:Nm) (p:Gs × List Nat) (v:Wy):(fW rg N p v).1.l=p.1.l∧(fW rg N p v).1.L=p.1.L∧(fW rg N p v).1.D=p.1.D:=by
 unfold fW
 split
 · exact⟨rfl,rfl,rfl⟩
 · exact akz rg N p.1 v.2
theorem Qy (rg:Rg) (N:Nm):∀ (ws:List Wy) (p:Gs × List Nat),(ws.foldl (fW rg N) p).1.l=p.1.l∧(ws.foldl (fW rg N) p).1.L=p.1.L∧(ws.foldl (fW rg N) p).1.D=p.1.D
 | [],_=>⟨rfl,rfl,rfl⟩
 | v::ws,p=>by
   have a:=Qy rg N ws (fW rg N p v)
   have b:=Wq rg N p v
   rw [List.foldl_cons,a.1,a.2.1,a.2.2]
   exact b
theorem vm (rg:Rg) (N:Nm) (s:Gs) (ws:List Wy):(aM rg N s ws).1.l=s.l∧(aM rg N s ws).1.L=s.L∧(aM rg N s ws).1.D=s.D:=Qy rg N ws (s,[])
theorem HB (rg:Rg) (N:Nm):∀ (ws:List Wy) (p:Gs × List Nat) (a:Nat),a∈(ws.foldl (fW rg N) p).2→a∈p.2∨∃ v∈ws,v.1=a
 | [],_,_,h=>.inl h
 | v::ws,p,a,h=>by
   rcases HB rg N ws _ a h with h | ⟨u,hu,e⟩
   · unfold fW at h
     split at h
     · exact .inl h
     · dsimp only at h
       split at h
       · rcases List.mem_append.mp h with h | h
         · exact .inl h
         · exact .inr ⟨v,List.mem_cons_self,(List.mem_singleton.mp h).symm⟩
       · exact .inl h
   · exact .inr ⟨u,List.mem_cons_of_mem _ hu,e⟩
theorem Af {rg:Rg}{N:Nm}{s:Gs}{ws:List Wy}{a:Nat} (h:a∈(aM rg N s ws).2):∃ v∈ws,v.1=a:=by
 rcases HB rg N ws (s,[]) a h with h | h
 · cases h
 · exact h
theorem gK.rebase {A:cQ}{N:Nm}{H0 H:Hp}{c:GA}{S:List mR}{rg:Rg}{Pt:Addr}{td:Array Value}{g:Addr}{s:Gs} (h:gK A N H0 c S rg Pt td g H s) {d:Addr}{xs:List V} (hd:H d=some (.lst xs)) (n0:H0 d=none) (nl:c.lg≠d) (nd:c.db≠d):gK A N (upd H0 d (.lst xs)) c S rg Pt td g H s:=by
 have s1:=zF n0 (.lst xs)
 have k1:Kq H0 (upd H0 d (.lst xs)):=.of s1
 obtain⟨a,a1,a2,a3⟩:=h.aq
 obtain⟨cv,g1,g2⟩:=h.go
 obtain⟨c1,⟨b,c2,c3⟩,c4,⟨k,c5,c6⟩,⟨e,c7,c8⟩,c9,c10⟩:=h.cst
 have na:c.aq≠d:=yP a1 hd (by intro z;cases z)
 refine⟨fun x u hx=>?_,⟨c1.kq k1,⟨b,s1 _ _ c2,fun r hr=>?_⟩,s1 _ _ c4,⟨k,s1 _ _ c5,c6.kq k1⟩,⟨e,s1 _ _ c7,c8⟩,s1 _ _ c9,c10⟩,?_,?_,?_,?_,h.ld,⟨cv,g1,g2⟩,⟨a,a1,a2,fun z d' hz=>?_⟩,h.lg,h.db⟩
 · by_cases e:x=d
   · subst e;rw [zB] at hx;cases hx;exact hd
   · rw [zI e] at hx;exact h.same _ _ hx
 · rcases c3 r hr with ⟨t,h1,h2⟩ | h1
   · exact .inl ⟨t,h1,s1 _ _ h2⟩
   · exact .inr h1
 · rw [zI (yP g1 hd (by intro z;cases z))];exact h.ng
 · rw [zI na];exact h.J6
 · rw [zI nl];exact h.Es
 · rw [zI nd];exact h.J7
 · obtain⟨f1,f2,f3⟩:=a3 z d' hz
   refine⟨?_,f2,f3⟩
   by_cases hz2:z∈s.l
   · obtain⟨d2,b2,h2,h3,_⟩:=a2.2.1 z hz2
     rw [hz] at h2;cases h2
     rw [zI (yP h3 hd (by intro z;cases z))];exact f1
   · rw [a2.2.2 z hz2] at hz;cases hz
theorem gK.Wr {A:cQ}{N:Nm}{H0 H:Hp}{c:GA}{S:List mR}{rg:Rg}{Pt:Addr}{td:Array Value}{g:Addr}{s:Gs}{d:Addr}{o:HO} (h:gK A N (upd H0 d o) c S rg Pt td g H s) (hc:Yu A N H0 c S rg Pt td) (n0:H0 d=none):gK A N H0 c S rg Pt td g H s:=by
 have s1:=zF n0 o
 obtain⟨a,a1,a2,a3⟩:=h.aq
 exact⟨s1.trans h.same,hc,yM s1 h.ng,yM s1 h.J6,yM s1 h.Es,yM s1 h.J7,h.ld,h.go,⟨a,a1,a2,fun z d' hz=>⟨yM s1 (a3 z d' hz).1,(a3 z d' hz).2⟩⟩,h.lg,h.db⟩
def Uo (A:cQ) (Pt:Addr):Sp:=fun vs H Q _=>∃ N H0 c S rg g s x sh,vs=[.ref g,x]∧gK A N H0 c S rg Pt uv g H s∧Qk A N (pU S) H0 x sh∧sh∈S∧N 0∈s.l∧N 1∈s.l ∧
 ∀ d ts H',H d=none→gK A N H0 c S rg Pt uv g H' (aM rg N s sh.2.2).1→H' d=some (.lst (ts.map V.str))→Paired (fun (t:Str) (a:Nat)=>(pU S)[a]? = some t) ts (aM rg N s sh.2.2).2→Q (.ref d) H'
def Up (A:cQ) (Pt:Addr):Sp:=fun vs H Q _=>∃ N H0 c S rg td g s x sh,vs=[.ref g,x]∧gK A N H0 c S rg Pt td g H s∧Qk A N (pU S) H0 x sh∧∀ d H',H d=none→aB H H'→H' d=some (.lst [.int 0])→Q (.ref d) H'
theorem Ws {ws:List Str}{t:Str}{j:Nat} (hd:ws.Nodup) (h:ws[j]? = some t):T4 (V.str t) (ws.map V.str) j:=by
 refine⟨.str t,by rw [List.getElem?_map,h];rfl,Ot rfl,fun m z hm hz=>?_⟩
 obtain⟨y',hy',rfl⟩:=sV hz
 show (y' == t)=false
 rw [beq_eq_false_iff_ne]
 intro e
 subst e
 obtain⟨l1,e1⟩:=List.getElem?_eq_some_iff.mp h
 obtain⟨l2,e2⟩:=List.getElem?_eq_some_iff.mp hy'
 exact (List.pairwise_iff_getElem.mp hd) m j l2 l1 hm (e2.trans e1.symm)
theorem M4 (ws:List Str):(ws.map V.str).all nY=true:=by rw [List.all_map,List.all_eq_true];intro _ _;rfl
section
variable {P:Program}{w:World}{K:W.Frag}{mg:Str→Option Value}{base:Heap}{A:cQ}{Pt:Addr}
theorem Wt (T:Txt K mg A):bw P w K mg base b8 1 A.fO A.fP ["self","sheet"] (Up A Pt):=by
 refine T.qF.ok pQ (fun vs H Q E h=>?_) (fun cdv A0 outer s H vs Q E hr h=>?_)
 · obtain⟨N,H0,c,S,rg,td,g,s,x,sh,rfl,_⟩:=h
   rfl
 obtain⟨N,H0,c,S,rg,td,g,s,x,sh,rfl,hG,hx,k⟩:=h
 refine⟨_,(zC (yA (zO xG (zK (pv 1) rfl) yF (zQ _)) (zE (zN (yN (zA (zK (pv 0) rfl) zD)))) zR)
     (zC nZ
     (zC nZ
     (zC nZ
     (zE nZ))))),?_⟩
 obtain⟨sa,Nb,r1,r2,rs,ws,rfl,a1,a2,a3,a4,a5⟩:=hx
 obtain⟨cv,g1,_⟩:=hG.go
 refine⟨_,rfl,sa,_,Nb,_,_,rfl,hG.same _ _ a1,T.dR,T.mK,rfl,rfl,_,rfl,bM ?_⟩
 refine⟨_,rfl,g,_,c.dx,gF c s.ov cv,_,rfl,g1,T.aA,T.gW,rfl,(by show 1≤sizeLine;decide),fun d hd=>?_⟩
 exact k d _ hd (zF hd _) zB
def JTh (T:Txt K mg A):dj P w K mg base b8 5 A.au "things_of":=⟨_,_,_,Up A Pt,[],[],T.aA,T.rP,(Wt T).mono (by decide),T.qG,.nil⟩
variable (B:BMain mg base) {c0:Addr} (hc:A.aL.code=.ref c0) (hh:W.codeHdIn K c0 Pt=true)
include B hc hh
theorem Wu (T:Txt K mg A):bw P w K mg base b8 9 A.eN A.eO ["self","sheet"] (Uo A Pt):=by
 refine T.pD.ok di (fun vs H Q E h=>?_) (fun cdv A0 outer s H vs Q E hr h=>?_)
 · obtain⟨N,H0,c,S,rg,g,s,x,sh,rfl,_⟩:=h
   rfl
 obtain⟨N,H0,c,S,rg,g,s,x,sh,rfl,hG,hx,hsh,hi0,hi1,k⟩:=h
 obtain⟨Eg,e1⟩:∃ k:Nat,k=8:=⟨_,rfl⟩
 refine⟨_,(zC (zX (i:=2) di.nd rfl ‹0› (yN zD))
     (zC (jd PassesOwn.never rfl (xA (zK (pv 1) rfl)) (uA rfl (yT (yL (i:=3) di.nd rfl ‹0›) (yT (yL (i:=4) di.nd rfl ‹0›) p8))) (zE (yA (PW.pt (jn (mq (yO (zK (pv 0) rfl))) (xP (yO (yD (CX:=b8) (k:=Eg) ‹hr› zT (pv 0) (zA (pv 4) (zA (zK (pv 0) rfl) zD))))))) (zE (yQ (vD PySem.F.plainAttrs_list PySem.F.slot_list_append PySem.F.type_list_append iw (pv 2) (zA (pv 3) zD)))) zR)))
     (zE (zN (pv 2))))),?_⟩
 subst e1
 obtain⟨sa,Nb,r1,r2,rs,ws,rfl,a1,a2,a3,a4,a5⟩:=hx
 refine⟨(by show 0≤sizeLine;decide),fun d hd=>?_⟩
 have s1:=zF hd (.lst [])
 have lw:=zU a5
 have hw4:=hG.cst.gs.ways sh hsh
 obtain⟨tt,tt1,_⟩:=hG.lg
 have nl:c.lg≠d:=zH tt1 hd
 have nd:c.db≠d:=zH hG.db hd
 have n0:H0 d=none:=yM hG.same hd
 refine⟨_,rfl,sa,_,Nb,_,_,rfl,s1 _ _ (hG.same _ _ a1),T.dR,T.qQ,rfl,r2,rfl,⟨ws,b7.of (s1 _ _ (hG.same _ _ a3))⟩,?_⟩
 refine xL (xs:=ws) (fun j σ H'=>∃ ts v y,σ=[some (.ref g),some (.ref sa),some (.ref d),v,y]∧gK A N H0 c S rg Pt uv g H' (aM rg N s (sh.2.2.take j)).1∧H' d=some (.lst (ts.map V.str))∧Paired (fun (t:Str) (a:Nat)=>(pU S)[a]? = some t) ts (aM rg N s (sh.2.2.take j)).2∧ts.length≤j) ⟨[],_,_,rfl,hG.mono s1,zB,.nil,Nat.le_refl _⟩ (fun j σ H2 hj hw=>?_) (fun j x σ H2 hx2 hw=>?_) (fun σ H2 hw=>?_)
 · obtain⟨ts,v,y,rfl,f,_⟩:=hw
   exact b7.of (f.same _ _ a3)
 · obtain⟨ts,v,y,rfl,G2,hd2,hp,hl⟩:=hw
   obtain⟨v1,hv1,hR⟩:=yK a5 hx2
   have hj4:j<4:=by have:=(List.getElem?_eq_some_iff.mp hv1).1;omega
   obtain⟨ta,y1,t,rfl,b1,b2,b3⟩:=hR
   refine⟨ta,_,rfl,ik.of (G2.same _ _ b1),rfl,_,_,rfl,_,_,rfl,rfl,?_⟩
   dsimp only [dH,List.set_cons_succ,List.set_cons_zero]
   have hst:=take_snoc hv1
   have hwl:=(vm rg N s (sh.2.2.take j)).1
   rw [hst,Cz]
   generalize aM rg N s (sh.2.2.take j)=p2 at G2 hp hwl ⊢
   obtain⟨s2,Et⟩:=p2
   have hwl:s2.l=s.l:=hwl
   have G2:gK A N H0 c S rg Pt uv g H2 s2:=G2
   have hp:Paired (fun (t:Str) (a:Nat)=>(pU S)[a]? = some t) ts Et:=hp
   obtain⟨cv,g1,_⟩:=G2.go
   refine⟨_,rfl,g,_,c.dx,gF c s2.ov cv,_,rfl,g1,T.aA,T.cJ,rfl,_,rfl,?_⟩
   cases ho:s2.ov with
   | true =>
     have est:fW rg N (s2,Et) v1=(s2,Et):=by unfold fW;exact if_pos ho
     rw [est]
     exact aW (aW ⟨ts,_,_,rfl,G2,hd2,hp,by omega⟩)
   | false =>
     have est:fW rg N (s2,Et) v1=(Ia rg N s2 v1.2,if S8 rg N v1.2=true then Et++[v1.1] else Et):=by unfold fW;exact if_neg (by rw [show (s2,Et).1.ov=false from ho];decide)
     rw [est]
     refine bM ?_
     refine⟨_,rfl,g,_,c.dx,gF c s2.ov cv,JSo T B hc hh,rfl,g1,rfl,_,rfl,_,rfl,g,_,c.dx,gF c s2.ov cv,_,rfl,g1,T.aA,T.gW,rfl,?_⟩
     refine⟨N,_,c,S,rg,g,s2,y1,v1.2,rfl,G2.rebase hd2 n0 nl nd,b3.kq (.of G2.same),fun y hy=>?_,fun H3 G3=>?_⟩
     · rw [hwl]
       cases y.1 <;> assumption
     have M5:H3 d=some (.lst (ts.map V.str)):=G3.same _ _ zB
     have G3:=G3.Wr hG.cst n0
     refine⟨_,rfl,?_⟩
     cases hho:S8 rg N v1.2 with
     | true =>
       refine bM ⟨_,rfl,.inl ⟨rfl,_,b7.of M5⟩,_,rfl,d,_,_,rfl,rfl,M5,yJ (m:=1000) (by rw [List.length_map];omega),?_⟩
       have G4:gK A N H0 c S rg Pt uv g (upd H3 d (.lst (ts.map V.str++[.str t]))) (Ia rg N s2 v1.2):=by
         have Gr:=G3.rebase M5 n0 nl nd
         obtain⟨a,q1,q2,q3⟩:=G3.aq
         obtain⟨l',l1,l2⟩:=G3.lg
         obtain⟨Yv,h1,h2⟩:=G3.go
         refine⟨lA G3.same n0 _,G3.cst,G3.ng,G3.J6,G3.Es,G3.J7,G3.ld,⟨Yv,?_,Ae M5 (fun _ z=>by cases z) h2⟩,⟨a,?_,Ed M5 (fun _ z=>by cases z) (fun _ z=>by cases z) q2,q3⟩,⟨l',?_,vh M5 (fun _ z=>by cases z) l2⟩,?_⟩
         · rw [zI (yP h1 M5 (by intro z;cases z))];exact h1
         · rw [zI (yP q1 M5 (by intro z;cases z))];exact q1
         · rw [zI nl];exact l1
         · rw [zI nd];exact G3.db
       refine⟨ts++[t],_,_,rfl,G4,by rw [zB,List.map_append];rfl,?_,by rw [List.length_append];exact Nat.add_le_add_right hl 1⟩
       show Paired _ _ (if true=true then Et++[v1.1] else Et)
       rw [if_pos rfl]
       exact yW hp (.cons b2 .nil)
     | false =>
       refine aW ⟨ts,_,_,rfl,G3,M5,?_,by omega⟩
       show Paired _ _ (if false=true then Et++[v1.1] else Et)
       rw [if_neg (by decide)]
       exact hp
 · obtain⟨ts,v,y,rfl,G2,hd2,hp,hl⟩:=hw
   rw [lw,List.take_length] at hp G2
   exact⟨_,rfl,k d ts H2 hd G2 hd2 hp⟩
def JTg (T:Txt K mg A):dj P w K mg base b8 9 A.au "targets_of":=⟨_,_,_,Uo A Pt,[],[],T.aA,T.qI,Wu B hc hh T,T.pF,.nil⟩
end
def su (p:Gs × List Nat) (z:Str):Gs:=if 1<p.2.length∧p.1.ov=false then ⟨p.1.l,p.1.L,p.1.D++[z],p.1.ov,p.1.ct⟩ else p.1
def Bv (l:List Nat) (i:Nat):Nat:=match l with
 | []=>i+1
 | a::_=>a
theorem Uq (p:Gs × List Nat) (z:Str):(su p z).ov=p.1.ov∧(su p z).l=p.1.l∧(su p z).L=p.1.L∧(su p z).D.length≤p.1.D.length+1:=by
 unfold su
 split
 · exact⟨rfl,rfl,rfl,by rw [List.length_append];exact Nat.le_refl _⟩
 · exact⟨rfl,rfl,rfl,Nat.le_succ _⟩
def aaE (A:cQ) (Pt:Addr):Sp:=fun vs H Q _=>∃ N H0 c S rg g s,∃ i:Nat,∃ sh:mR,vs=[.ref g,.int (i:Nat)]∧gK A N H0 c S rg Pt uv g H s∧S[i]? = some sh∧N 0∈s.l∧N 1∈s.l∧s.D.length≤100 ∧
 ∀ H',gK A N H0 c S rg Pt uv g H' (su (aM rg N s sh.2.2) sh.1)→Q (.int (Bv (aM rg N s sh.2.2).2 i:Nat)) H'
section
variable {P:Program}{w:World}{K:W.Frag}{mg:Str→Option Value}{base:Heap}{A:cQ}{Pt:Addr}
variable (B:BMain mg base) {c0:Addr} (hc:A.aL.code=.ref c0) (hh:W.codeHdIn K c0 Pt=true)
include B hc hh
theorem aaF (T:Txt K mg A):bw P w K mg base b8 10 A.jt A.ju ["self","place"] (aaE A Pt):=by
 refine T.wg.ok fc (fun vs H Q E h=>?_) (fun cdv A0 outer s H vs Q E hr h=>?_)
 · obtain⟨N,H0,c,S,rg,g,s,i,sh,rfl,_⟩:=h
   rfl
 obtain⟨N,H0,c,S,rg,g,s,i,sh,rfl,hG,hsh,hi0,hi1,hD,k⟩:=h
 obtain⟨Eh,e1⟩:∃ k:Nat,k=9:=⟨_,rfl⟩
 refine⟨_,(zC (zX (i:=2) fc.nd rfl ‹0› (zW aV (zK (zK (pv 0) rfl) rfl) (pv 1) (fun _ _=>rfl)))
     (zC (zX (i:=3) fc.nd rfl ‹0› (yD (CX:=b8) (k:=Eh) ‹hr› zT (pv 0) (zA (pv 2) zD)))
     (zC (yA (PW.pt (jn (zO Fb (zY yU (by rfl) T.vN PySem.boot_len (zA (pv 3) zD)) zG (zQ _)) (xP (mq (yO (zK (pv 0) rfl)))))) (zE (yQ (vD PySem.F.plainAttrs_list PySem.F.slot_list_append PySem.F.type_list_append iw (zK (pv 0) rfl) (zA (zK (pv 2) rfl) zD)))) zR)
     (zC (yA (zO yY (zY yU (by rfl) T.vN PySem.boot_len (zA (pv 3) zD)) zG (zQ _)) (zE (zN (zV mz (pv 1) zG))) zR)
     (zC (zX (i:=4) fc.nd rfl ‹0› (zV Dc (xr (xC (x:="other") (M:=["self","place","sheet","targets","names"]) rfl (by rfl)) rfl (xA (zK (zK (pv 0) rfl) rfl)) (fun _ _ _ _=>Dk (by exact (zK (pv 0) rfl)) (by dsimp only [nq] <;> rfl))) (yN (zA yB zD))))
     (zE (zN (vD PySem.F.plainAttrs_list PySem.F.slot_list_index PySem.F.type_list_index Mj (pv 4) (zA (zW aV (pv 3) zG (fun _ _=>rfl)) zD))))))))),?_⟩
 subst e1
 obtain⟨dx,u,q1,q2,xs,p1,p2,p3,p4⟩:=hG.cst.pa
 obtain⟨x,hx,hS⟩:=rZ p4 hsh
 have lens:=zU p4
 have hlen:=hG.cst.gs.len
 obtain⟨cv,g1,_⟩:=hG.go
 refine⟨_,rfl,g,_,c.dx,gF c s.ov cv,_,rfl,g1,T.aA,T.eQ,rfl,c.pa,_,dx,_,_,rfl,hG.same _ _ p1,T.fU,T.cN,rfl,_,rfl,q1,_,_,_,rfl,rfl,b7.of (hG.same _ _ p2),zP hx,?_⟩
 refine⟨_,rfl,g,_,c.dx,gF c s.ov cv,JTg B hc hh T,rfl,g1,rfl,_,rfl,?_⟩
 refine⟨N,H0,c,S,rg,g,s,x,sh,rfl,hG,hS,List.mem_of_getElem? hsh,hi0,hi1,fun d ts H1 fd G1 hd hp=>?_⟩
 have hDw:=(vm rg N s sh.2.2).2.2
 generalize hp2:aM rg N s sh.2.2=pw at G1 hp k hDw
 obtain⟨s2,Et⟩:=pw
 have G1:gK A N H0 c S rg Pt uv g H1 s2:=G1
 have hp:Paired (fun (t:Str) (a:Nat)=>(pU S)[a]? = some t) ts Et:=hp
 have hDw:s2.D=s.D:=hDw
 obtain⟨sa,Nb,r1,r2,rs,ws,rfl,a1,a2,a3,a4,a5⟩:=hS
 have ml:(ts.map V.str).length=ts.length:=List.length_map ..
 have pl:=zU hp
 dsimp only [dH,List.set_cons_succ,List.set_cons_zero]
 refine uq (fun σ H2=>∃ u,σ=[some (.ref g),some (.int (i:Nat)),some (.ref sa),some (.ref d),u]∧gK A N H0 c S rg Pt uv g H2 (su (s2,Et) sh.1)∧H2 d=some (.lst (ts.map V.str))) ?_ ?_
 · rintro σ H2 ⟨u,rfl,G2,hd2⟩
   obtain⟨cv2,g2,_⟩:=G2.go
   refine⟨_,rfl,d,_,rfl,.inl (b7.of hd2),rfl,_,rfl,?_⟩
   rw [ml]
   cases ts with
   | nil =>
     cases hp
     exact bM ⟨_,rfl,_,_,rfl,rfl,k _ G2⟩
   | cons t ts' =>
     have Wv:decide (V.int ((List.length (t::ts'):Nat):Int)=V.int 0)=false:=decide_eq_false fun z=>by
       have z:=V.int.inj z
       simp only [List.length_cons] at z
       omega
     refine VR Wv ?_
     cases hp with
     | @cons _ a _ r ht _ =>
       refine⟨_,rfl,g,_,c.dx,_,_,rfl,g2,T.aA,T.eQ,rfl,c.pa,_,dx,_,_,rfl,G2.same _ _ p1,T.fU,T.cN,rfl,q1,rfl,⟨xs,b7.of (G2.same _ _ p2)⟩,?_⟩
       refine Jc (xs:=xs) (yJ (m:=1000) (by omega)) (fun i zs H'=>H2=H'∧zs=((S.take i).map (·.1)).map V.str) ⟨rfl,rfl⟩ (fun i zs H' hw=>by obtain⟨rfl,_⟩:=hw;exact b7.of (G2.same _ _ p2)) (fun j x zs H' hx' hlen' hw=>?_) (fun zs H' hl2 hw p2' hp2=>?_)
       · obtain⟨rfl,rfl⟩:=hw
         obtain⟨s2,hs2,hR2⟩:=yK p4 hx'
         obtain⟨oa,odx,o1,o2,ors,ows,rfl,c1,_⟩:=hR2
         refine⟨_,rfl,oa,_,odx,_,_,rfl,G2.same _ _ c1,T.dR,T.mJ,rfl,rfl,?_⟩
         rw [take_snoc hs2,List.map_append,List.map_append];rfl
       · obtain⟨rfl,rfl⟩:=hw
         rw [lens,List.take_length]
         have sp2:=zF hp2 (.lst ((S.map (·.1)).map V.str))
         refine⟨(by show 1≤sizeLine;decide),fun pb hpb=>?_⟩
         have sp3:=zF hpb (.lst [.str ‹"end"›])
         refine⟨p2',pb,_,_,rfl,rfl,sp3 _ _ zB,zB,yJ (m:=1000) (by rw [List.length_map,List.length_map];show S.length+1≤1000;omega),fun pn hpn=>?_⟩
         have sp4:=zF hpn (.lst (((S.map (·.1)).map V.str)++[.str ‹"end"›]))
         have s24:=(sp2.trans sp3).trans sp4
         have en:((S.map (·.1)).map V.str)++[.str ‹"end"›]=(pU S).map V.str:=by unfold pU;rw [List.map_append];rfl
         rw [en]
         rw [en] at s24
         dsimp only [dH,List.set_cons_succ,List.set_cons_zero]
         refine⟨_,rfl,.inl ⟨rfl,_,b7.of zB⟩,_,rfl,d,_,_,_,rfl,rfl,b7.of (s24 _ _ hd2),zP (j:=0) rfl,?_⟩
         exact⟨pn,_,_,a,rfl,rfl,b7.of zB,M4 _,rfl,Ws hG.cst.gs.nd ht,k _ (G2.mono s24)⟩
 · intro M hN
   refine⟨_,rfl,d,_,rfl,.inl (b7.of hd),_,_,rfl,rfl,_,rfl,?_⟩
   have e0:¬ (1<Et.length∧s2.ov=false)→su (s2,Et) sh.1=s2:=fun z=>if_neg z
   have e1:(1<Et.length∧s2.ov=false)→su (s2,Et) sh.1=⟨s2.l,s2.L,s2.D++[sh.1],s2.ov,s2.ct⟩:=fun z=>if_pos z
   refine mW (fun c1=>?_) (fun c1=>aW (hN _ _ ⟨_,rfl,?_,hd⟩))
   · have c1:(((ts.map V.str).length:Nat):Int) > 1:=of_decide_eq_true c1
     obtain⟨cv1,g1',_⟩:=G1.go
     refine⟨_,rfl,g,_,c.dx,gF c s2.ov cv1,_,rfl,g1',T.aA,T.cJ,rfl,_,rfl,?_⟩
     cases ho:s2.ov with
     | true=>exact aW (hN _ _ ⟨_,rfl,by rw [e0 (by rw [ho];simp)];exact G1,hd⟩)
     | false =>
       refine bM ⟨_,rfl,g,_,c.dx,gF c s2.ov cv1,_,rfl,g1',T.aA,T.iU,rfl,.inl ⟨rfl,_,b7.of G1.db⟩,_,rfl,sa,_,Nb,_,_,rfl,G1.same _ _ a1,T.dR,T.mJ,rfl,c.db,_,_,rfl,rfl,G1.db,yJ (m:=1000) (by rw [List.length_map,hDw];omega),hN _ _ ⟨_,rfl,?_,?_⟩⟩
       · rw [e1 ⟨by rw [← pl];rw [ml] at c1;omega,ho⟩];exact G1.dbl sh.1
       · rw [zI (Ne.symm (zH hG.db fd))];exact hd
   · rw [e0 (fun z=>c1 (decide_eq_true (by rw [ml,pl];omega)))];exact G1
def JLv (T:Txt K mg A):dj P w K mg base b8 10 A.au "leave":=⟨_,_,_,aaE A Pt,[],[],T.aA,T.zx,aaF B hc hh T,T.wj,.nil⟩
end
inductive Fin (rg:Rg) (N:Nm) (S:List mR):Nat→Gs→Gs→Prop
 | over {i:Nat}{s:Gs}:s.ov=true→Fin rg N S i s s
 | done {i:Nat}{s:Gs}:s.ov=false→S.length≤i→Fin rg N S i s ⟨s.l,s.L++[Bu],s.D,true,s.ct⟩
 | step {i:Nat}{s:Gs}{sh:mR}{sf:Gs}:s.ov=false→S[i]? = some sh→Fin rg N S (Bv (aM rg N (aU s sh.2.1) sh.2.2).2 i) (su (aM rg N (aU s sh.2.1) sh.2.2) sh.1) sf→Fin rg N S i s sf
theorem Qz {rg:Rg}{N:Nm}{S:List mR}{i:Nat}{s sf:Gs} (h:Fin rg N S i s sf) (ho:s.ov=true):sf=s:=by
 cases h with
 | over _=>rfl
 | done h _=>rw [ho] at h;cases h
 | step h _ _=>rw [ho] at h;cases h
theorem aaG {rg:Rg}{N:Nm}{S:List mR} (hG:GS N S) {i:Nat}{sh:mR} (hs:S[i]? = some sh) (s:Gs):i<Bv (aM rg N s sh.2.2).2 i∧Bv (aM rg N s sh.2.2).2 i≤S.length:=by
 have hi:=(List.getElem?_eq_some_iff.mp hs).1
 cases h:(aM rg N s sh.2.2).2 with
 | nil=>exact⟨Nat.lt_succ_self _,hi⟩
 | cons a r =>
   obtain⟨v,hv,rfl⟩:=Af (a:=a) (by rw [h];exact List.mem_cons_self)
   exact hG.aim i sh hs v hv
def vo:Gs:=⟨[],[],[],false,none⟩
def aaH (A:cQ) (Pt:Addr):Sp:=fun vs H Q _=>∃ N H0 c S rg g sf,vs=[.ref g]∧gK A N H0 c S rg Pt uv g H vo∧Fin rg N S 0 vo sf∧∀ Kc H',aB H0 Kc→gK A N Kc c S rg Pt uv g H' sf→Q .non H'
section
variable {P:Program}{w:World}{K:W.Frag}{mg:Str→Option Value}{base:Heap}{A:cQ}{Pt:Addr}
variable (B:BMain mg base) {c0:Addr} (hc:A.aL.code=.ref c0) (hh:W.codeHdIn K c0 Pt=true)
include B hc hh
theorem aaI (T:Txt K mg A):bw P w K mg base b8 11 A.nA A.nC ["self"] (aaH A Pt):=by
 refine T.Dq.ok fV (fun vs H Q E h=>?_) (fun cdv A0 outer s H vs Q E hr h=>?_)
 · obtain⟨N,H0,c,S,rg,g,sf,rfl,_⟩:=h
   rfl
 obtain⟨N,H0,c,S,rg,g,sf,rfl,hG,hF,k⟩:=h
 obtain⟨HD,e1⟩:∃ k:Nat,k=5:=⟨_,rfl⟩
 obtain⟨Ei,e2⟩:∃ k:Nat,k=10:=⟨_,rfl⟩
 obtain⟨Tc,e3⟩:∃ k:Nat,k=10:=⟨_,rfl⟩
 obtain⟨HF,e4⟩:∃ k:Nat,k=4:=⟨_,rfl⟩
 refine⟨_,(zC (zX (i:=1) fV.nd rfl ‹0› zG)
     (zC (Mi PassesOwn.never (PW.pt (jn (mq (yO (zK (pv 0) rfl))) (xP (zO sE (pv 1) (zY yU (by rfl) T.vN PySem.boot_len (zA (zK (zK (pv 0) rfl) rfl) zD)) (zQ _))))) (zC (zX (i:=2) fV.nd rfl ‹0› (zW aV (zK (zK (pv 0) rfl) rfl) (pv 1) (fun _ _=>rfl)))
     (zC (jd PassesOwn.never rfl (xA (yD (CX:=b8) (k:=HD) ‹hr› zT (pv 0) (zA (pv 2) zD))) (yL (i:=3) fV.nd rfl ‹0›) (zE (yQ (yD (CX:=b8) (k:=Ei) ‹hr› zT (pv 0) (zA (pv 2) (zA (pv 3) zD))))))
     (zE (zX (i:=1) fV.nd rfl ‹0› (yD (CX:=b8) (k:=Tc) ‹hr› zT (pv 0) (zA (pv 1) zD)))))))
     (zE (yA (mq (yO (zK (pv 0) rfl))) (zE (yQ (yD (CX:=b8) (k:=HF) ‹hr› zT (pv 0) (zA (yC (zA yB zD)) zD)))) zR)))),?_⟩
 subst e1 e2 e3 e4
 have hS5:=hG.cst.gs.len
 have hGS:=hG.cst.gs
 refine⟨fun m σ H=>∃ Kc s v y,∃ i:Nat,σ=[some (.ref g),some (.int (i:Nat)),v,y]∧i≤S.length∧m=S.length - i∧aB H0 Kc∧gK A N Kc c S rg Pt uv g H s∧s.D.length≤i∧s.L.length≤4*i∧s.l.length≤4*i∧(0<i→N 0∈s.l∧N 1∈s.l)∧Fin rg N S i s sf,⟨_,H0,vo,_,_,0,rfl,Nat.zero_le _,rfl,aB.refl _,hG,Nat.le_refl _,Nat.le_refl _,Nat.le_refl _,fun z=>absurd z (Nat.lt_irrefl _),hF⟩,?_⟩
 rintro m σ H1 ⟨Kc,s,v,y,i,rfl,hi,rfl,sH,G,hn,hL,hl,hq,F⟩
 obtain⟨cv,g1,_⟩:=G.go
 refine⟨_,rfl,g,_,c.dx,gF c s.ov cv,_,rfl,g1,T.aA,T.cJ,rfl,_,rfl,?_⟩
 cases ho:s.ov with
 | true =>
   refine aW (aW ?_)
   refine⟨_,rfl,g,_,c.dx,gF c s.ov cv,_,rfl,g1,T.aA,T.cJ,rfl,_,rfl,?_⟩
   rw [ho]
   refine aW ?_
   have e:=Qz F ho
   refine k _ _ sH ?_
   rw [e];exact G
 | false =>
   refine bM ?_
   obtain⟨dx,u,q1,q2,xs,p1,p2,p3,p4⟩:=G.cst.pa
   have lens:=zU p4
   refine⟨_,rfl,_,rfl,g,_,c.dx,gF c s.ov cv,_,rfl,g1,T.aA,T.eQ,rfl,c.pa,_,dx,_,_,rfl,G.same _ _ p1,T.fU,T.cN,rfl,q1,_,rfl,.inl (b7.of (G.same _ _ p2)),_,_,rfl,rfl,_,rfl,?_⟩
   rw [lens]
   cases F with
   | over z=>rw [ho] at z;cases z
   | done _ hle =>
     refine mW (fun c1=>?_) (fun c1=>?_)
     · have:=of_decide_eq_true c1;omega
     · refine⟨_,rfl,g,_,c.dx,gF c s.ov cv,_,rfl,g1,T.aA,T.cJ,rfl,_,rfl,?_⟩
       rw [ho]
       refine bM ?_
       refine⟨_,rfl,g,_,c.dx,gF c s.ov cv,JSt T (Pt:=Pt),rfl,g1,rfl,(by show 1≤sizeLine;decide),fun t ht=>?_⟩
       have s2:=zF ht (.tup Bu)
       exact⟨N,Kc,c,S,rg,_,g,s,t,Bu,rfl,G.mono s2,zB,by omega,fun H' G'=>k _ _ sH G'⟩
   | @step _ _ sh _ _ hsh F =>
     have hlt:i<S.length:=(List.getElem?_eq_some_iff.mp hsh).1
     refine mW (fun c1=>?_) (fun c1=>absurd (decide_eq_true (show (i:Int)<(S.length:Nat) by omega)) c1)
     obtain⟨x,hx,hR⟩:=rZ p4 hsh
     have hmem:=List.mem_of_getElem? hsh
     have hr4:=hGS.rows sh hmem
     have hre:=uw s sh.2.1
     have hq2:N 0∈(aU s sh.2.1).l∧N 1∈(aU s sh.2.1).l:=by
       rw [hre]
       by_cases hi0:i=0
       · subst hi0
         obtain⟨sh',f1,f2,f3⟩:=hGS.fst
         rw [hsh] at f1;cases f1
         exact⟨List.mem_append_right _ f2,List.mem_append_right _ f3⟩
       · obtain⟨f2,f3⟩:=hq (by omega)
         exact⟨List.mem_append_left _ f2,List.mem_append_left _ f3⟩
     have akE:(aU s sh.2.1).ov=false:=by rw [hre];exact ho
     have hl2:(aU s sh.2.1).l.length≤4*(i+1)∧(aU s sh.2.1).L.length≤4*(i+1)∧(aU s sh.2.1).D=s.D:=by
       rw [hre]
       simp only [List.length_append,List.length_map]
       exact⟨by omega,by omega,trivial⟩
     generalize hs2:aU s sh.2.1=s2 at F hq2 akE hl2
     have hnx:=aaG (rg:=rg) hGS hsh s2
     have hwl:=vm rg N s2 sh.2.2
     have hlv:=Uq (aM rg N s2 sh.2.2) sh.1
     refine⟨fun σ' H'=>∃ Kc v y,σ'=[some (.ref g),some (.int (Bv (aM rg N s2 sh.2.2).2 i:Nat)),v,y]∧aB H0 Kc∧gK A N Kc c S rg Pt uv g H' (su (aM rg N s2 sh.2.2) sh.1),fun σ' H' z=>?_,?_⟩
     · obtain⟨Kc,v,y,e,a1,a2⟩:=z
       generalize Bv (aM rg N s2 sh.2.2).2 i=j at e hnx F
       refine⟨S.length - j,by omega,Kc,_,v,y,j,e,hnx.2,rfl,a1,a2,?_,?_,?_,fun _=>?_,F⟩
       · have:=hlv.2.2.2;rw [hwl.2.2,hl2.2.2] at this;omega
       · rw [hlv.2.2.1,hwl.2.1];omega
       · rw [hlv.2.1,hwl.1];omega
       · rw [hlv.2.1,hwl.1];exact hq2
     refine⟨_,rfl,g,_,c.dx,gF c s.ov cv,_,rfl,g1,T.aA,T.eQ,rfl,c.pa,_,dx,_,_,rfl,G.same _ _ p1,T.fU,T.cN,rfl,_,rfl,q1,_,_,_,rfl,rfl,b7.of (G.same _ _ p2),zP hx,?_⟩
     refine⟨_,rfl,g,_,c.dx,gF c s.ov cv,JTh T (Pt:=Pt),rfl,g1,rfl,_,rfl,?_⟩
     refine⟨N,Kc,c,S,rg,_,g,s,x,sh,rfl,G,hR,fun d H2 fd s2' hd=>?_⟩
     obtain⟨tt,tt1,_⟩:=G.lg
     have G2:=(G.mono s2').rebase hd (yM G.same fd) (zH tt1 fd) (zH G.db fd)
     have sB:=zF (yM G.same fd) (.lst [.int 0])
     refine⟨d,rfl,⟨_,b7.of hd⟩,?_⟩
     refine xL (xs:=[.int 0]) (fun j σ H'=>∃ v,σ=[some (.ref g),some (.int (i:Nat)),some x,v]∧gK A N (upd Kc d (.lst [.int 0])) c S rg Pt uv g H' (if j=0 then s else s2)) ⟨_,rfl,by rw [if_pos rfl];exact G2⟩ (fun j σ H3 hj hw=>?_) (fun j x' σ H3 hx3 hw=>?_) (fun σ H3 hw=>?_)
     · obtain⟨v,rfl,G3⟩:=hw
       exact b7.of (G3.same _ _ zB)
     · cases j with
       | succ j=>simp at hx3
       | zero =>
         cases hx3
         obtain⟨v,rfl,G3⟩:=hw
         rw [if_pos rfl] at G3
         obtain⟨cv3,g3,_⟩:=G3.go
         refine⟨_,rfl,g,_,c.dx,gF c s.ov cv3,JTr B hc hh T,rfl,g3,rfl,_,rfl,_,rfl,?_⟩
         refine⟨N,_,c,S,rg,g,s,x,sh,rfl,G3,ho,hR.kq (.of sB),hmem,by omega,by omega,fun H' G4=>⟨_,rfl,?_⟩⟩
         rw [if_neg (by omega),← hs2];exact G4
     · obtain⟨v,rfl,G3⟩:=hw
       rw [if_neg (show ¬ ([V.int 0].length=0) from Nat.succ_ne_zero 0)] at G3
       obtain⟨cv3,g3,_⟩:=G3.go
       refine⟨_,rfl,g,_,c.dx,gF c s2.ov cv3,JLv B hc hh T,rfl,g3,rfl,_,rfl,?_⟩
       exact⟨N,_,c,S,rg,g,s2,i,sh,rfl,G3,hsh,hq2.1,hq2.2,by rw [hl2.2.2];omega,fun H' G4=>⟨_,_,_,rfl,sH.trans sB,G4⟩⟩
def JGo (T:Txt K mg A):dj P w K mg base b8 11 A.au "go":=⟨_,_,_,aaH A Pt,[],[],T.aA,T.G8,aaI B hc hh T,T.Dr,.nil⟩
end
theorem Kq.of0 {H H':Hp}{g C dx:Addr} (F:Fr [g] H H') (hg:H g=some (.ins C dx [])):Kq H H':=fun b o hb ho=>F b o hb (oJ fun e=>by
 rw [e,hg] at hb;cases hb;exact ho)
abbrev gI (c:GA):List (Str × V):=[("paper",.ref c.pa),("alone",.int 0),("kinds",.ref c.kd),("eaches",.ref c.ed),("together",.ref c.tg),("asked",.ref c.aq),("log",.ref c.lg),("doubles",.ref c.db),("over",.bl false)]
structure New (A:cQ) (H:Hp) (c:GA) (S:List mR) (H':Hp):Prop where
 kd:∃ kvs,H' c.kd=some (.dK kvs)∧Sw A H' kvs S
 ed:∃ kvs,H' c.ed=some (.dK kvs)∧Ys kvs S
 tg:H' c.tg=some (.dK [])
 J6:H c.aq=none
 aq:H' c.aq=some (.dK [])
 Es:H c.lg=none
 lg:H' c.lg=some (.lst [])
 J7:H c.db=none
 db:H' c.db=some (.lst [])
 ld:c.lg≠c.db
 ka:c.kd≠c.aq
 ea:c.ed≠c.aq
 ta:c.tg≠c.aq
def akF (A:cQ):Sp:=fun vs H Q _=>∃ N g dx pa S,vs=[.ref g,.ref pa,.int 0]∧H g=some (.ins A.au dx [])∧Ql A N H pa S∧GS N S ∧
 ∀ (c:GA) H',c.dx=dx→c.pa=pa→Fr [g] H H'→H' g=some (.ins A.au dx (gI c))→New A H c S H'→Q .non H'
def akG (A:cQ):Sp:=fun vs H Q _=>∃ N g dx pa S bx,vs=[.ref g,.ref pa,.ref bx]∧H g=some (.ins A.au dx [])∧Ql A N H pa S∧GS N S ∧
 ∀ (c:GA) H',c.pa=pa→c.bx=bx→Fr [g] H H'→H' g=some (Wc A c false .non)→New A H c S H'→Q .non H'
section
variable {P:Program}{w:World}{K:W.Frag}{mg:Str→Option Value}{base:Heap}{A:cQ}
theorem Ww (T:Txt K mg A):bw P w K mg base b8 2 A.iH A.iI ["self","paper","alone"] (akF A):=by
 have Kd:=Hn (P:=P) (w:=w) (base:=base) T
 have HH:=Ea (P:=P) (w:=w) (base:=base) T
 have Ag:=wL (P:=P) (w:=w) (base:=base) T
 refine T.uR.ok uf (fun vs H Q E h=>?_) (fun cdv A0 outer s H vs Q E hr h=>?_)
 · obtain⟨N,g,dx,pa,S,rfl,_⟩:=h
   rfl
 obtain⟨N,g,dx,pa,S,rfl,hg,hP,hQ,k⟩:=h
 refine⟨_,(zC (yG (pv 0) (pv 1) rfl)
     (zC (yG (pv 0) (pv 2) rfl)
     (zC (yG (pv 0) (zZ Kd ‹hr› rfl T.Jq T.Jp T.Jo .nil zT (zA (pv 1) zD)) rfl)
     (zC (yG (pv 0) (zZ HH ‹hr› rfl T.Gj T.Gi T.Gh .nil zT (zA (pv 1) zD)) rfl)
     (zC (yG (pv 0) (zZ Ag ‹hr› rfl T.yr T.yq T.yp .nil zT (zA (pv 1) zD)) rfl)
     (zC (yG (pv 0) oV rfl)
     (zC (yG (pv 0) (yN zD) rfl)
     (zC (yG (pv 0) (yN zD) rfl)
     (zE (yG (pv 0) xM rfl)))))))))),?_⟩
 have cl:=T.aA
 have st:∀ {Ha:Hp}{o:HO},Fr [g] Ha (upd Ha g o):=fun {Ha o}=>(Fr.of (aB.refl _)).upd (List.mem_singleton.mpr rfl) o
 refine⟨_,rfl,_,rfl,g,_,dx,_,rfl,hg,cl,T.eQ,by decide,?_⟩
 refine⟨_,rfl,_,rfl,g,_,dx,_,rfl,zB,cl,T.gW,(by show 1<1000;decide),?_⟩
 rw [yH]
 refine (show (∀ H1,Fr [g] H H1→H1 g=some (.ins A.au dx [("paper",.ref pa),("alone",.int 0)])→_)→_ from fun z=>z (upd H g (.ins A.au dx [("paper",.ref pa),("alone",.int 0)])) st zB) ?_
 intro H1 F1 g1
 have F01:Fr [g] H H1:=F1
 refine⟨_,rfl,N,pa,S,rfl,hP.kq (Kq.of0 F01 hg),hQ,fun kd kvs H2 fk s2 hk hK=>?_⟩
 have nkd:kd≠g:=Ne.symm (zH g1 fk)
 refine⟨_,rfl,g,_,dx,_,rfl,s2 _ _ g1,cl,T.kO,(by show 2<1000;decide),?_⟩
 refine (show (∀ H3,Fr [g] H2 H3→H3 g=some (.ins A.au dx [("paper",.ref pa),("alone",.int 0),("kinds",.ref kd)])→_)→_ from fun z=>z (upd H2 g (.ins A.au dx [("paper",.ref pa),("alone",.int 0),("kinds",.ref kd)])) st zB) ?_
 intro H3 F3 g3
 have F03:Fr [g] H H3:=(F01.trans (Fr.of s2)).trans F3
 refine⟨_,rfl,N,pa,S,rfl,hP.kq (Kq.of0 F03 hg),hQ,fun ed Yw H4 fe s4 he hE=>?_⟩
 have ned:ed≠g:=Ne.symm (zH g3 fe)
 refine⟨_,rfl,g,_,dx,_,rfl,s4 _ _ g3,cl,T.oE,(by show 3<1000;decide),?_⟩
 refine (show (∀ H5,Fr [g] H4 H5→H5 g=some (.ins A.au dx [("paper",.ref pa),("alone",.int 0),("kinds",.ref kd),("eaches",.ref ed)])→_)→_ from fun z=>z (upd H4 g (.ins A.au dx [("paper",.ref pa),("alone",.int 0),("kinds",.ref kd),("eaches",.ref ed)])) st zB) ?_
 intro H5 F5 g5
 have F05:Fr [g] H H5:=(F03.trans (Fr.of s4)).trans F5
 refine⟨_,rfl,N,pa,S,rfl,hP.kq (Kq.of0 F05 hg),fun tg H6 ft s6 ht=>?_⟩
 have ntg:tg≠g:=Ne.symm (zH g5 ft)
 refine⟨_,rfl,g,_,dx,_,rfl,s6 _ _ g5,cl,T.gY,(by show 4<1000;decide),?_⟩
 refine (show (∀ H7,Fr [g] H6 H7→H7 g=some (.ins A.au dx [("paper",.ref pa),("alone",.int 0),("kinds",.ref kd),("eaches",.ref ed),("together",.ref tg)])→_)→_ from fun z=>z (upd H6 g (.ins A.au dx [("paper",.ref pa),("alone",.int 0),("kinds",.ref kd),("eaches",.ref ed),("together",.ref tg)])) st zB) ?_
 intro H7 F7 g7
 intro aq ha
 have s8:=zF ha (.dK [])
 have J6:aq≠g:=Ne.symm (zH g7 ha)
 have a8:(upd H7 aq (.dK [])) aq=some (.dK []):=zB
 generalize upd H7 aq (HO.dK [])=H8 at s8 a8 ⊢
 refine⟨_,rfl,g,_,dx,_,rfl,s8 _ _ g7,cl,T.eU,(by show 5<1000;decide),?_⟩
 refine (show (∀ H9,Fr [g] H8 H9→H9 g=some (.ins A.au dx [("paper",.ref pa),("alone",.int 0),("kinds",.ref kd),("eaches",.ref ed),("together",.ref tg),("asked",.ref aq)])→_)→_ from fun z=>z (upd H8 g (.ins A.au dx [("paper",.ref pa),("alone",.int 0),("kinds",.ref kd),("eaches",.ref ed),("together",.ref tg),("asked",.ref aq)])) st zB) ?_
 intro H9 F9 g9
 refine⟨(by show 0≤sizeLine;decide),fun lg hl=>?_⟩
 have s10:=zF hl (.lst [])
 have Es:lg≠g:=Ne.symm (zH g9 hl)
 have l10:(upd H9 lg (.lst [])) lg=some (.lst []):=zB
 generalize upd H9 lg (HO.lst [])=H10 at s10 l10 ⊢
 refine⟨_,rfl,g,_,dx,_,rfl,s10 _ _ g9,cl,T.jJ,(by show 6<1000;decide),?_⟩
 refine (show (∀ Q4,Fr [g] H10 Q4→Q4 g=some (.ins A.au dx [("paper",.ref pa),("alone",.int 0),("kinds",.ref kd),("eaches",.ref ed),("together",.ref tg),("asked",.ref aq),("log",.ref lg)])→_)→_ from fun z=>z (upd H10 g (.ins A.au dx [("paper",.ref pa),("alone",.int 0),("kinds",.ref kd),("eaches",.ref ed),("together",.ref tg),("asked",.ref aq),("log",.ref lg)])) st zB) ?_
 intro Q4 F11 g11
 refine⟨(by show 0≤sizeLine;decide),fun db hdb=>?_⟩
 have s12:=zF hdb (.lst [])
 have J7:db≠g:=Ne.symm (zH g11 hdb)
 have d12:(upd Q4 db (.lst [])) db=some (.lst []):=zB
 generalize upd Q4 db (HO.lst [])=QB at s12 d12 ⊢
 refine⟨_,rfl,g,_,dx,_,rfl,s12 _ _ g11,cl,T.iU,(by show 7<1000;decide),?_⟩
 refine (show (∀ Q5,Fr [g] QB Q5→Q5 g=some (.ins A.au dx [("paper",.ref pa),("alone",.int 0),("kinds",.ref kd),("eaches",.ref ed),("together",.ref tg),("asked",.ref aq),("log",.ref lg),("doubles",.ref db)])→_)→_ from fun z=>z (upd QB g (.ins A.au dx [("paper",.ref pa),("alone",.int 0),("kinds",.ref kd),("eaches",.ref ed),("together",.ref tg),("asked",.ref aq),("log",.ref lg),("doubles",.ref db)])) st zB) ?_
 intro Q5 F13 g13
 refine⟨_,rfl,g,_,dx,_,rfl,g13,cl,T.cJ,(by show 8<1000;decide),?_⟩
 have F14:Fr [g] Q5 (upd Q5 g (.ins A.au dx [("paper",.ref pa),("alone",.int 0),("kinds",.ref kd),("eaches",.ref ed),("together",.ref tg),("asked",.ref aq),("log",.ref lg),("doubles",.ref db),("over",.bl false)])):=st
 have QC:Fr [g] H7 (upd Q5 g (.ins A.au dx [("paper",.ref pa),("alone",.int 0),("kinds",.ref kd),("eaches",.ref ed),("together",.ref tg),("asked",.ref aq),("log",.ref lg),("doubles",.ref db),("over",.bl false)])):=((((((Fr.of s8).trans F9).trans (Fr.of s10)).trans F11).trans (Fr.of s12)).trans F13).trans F14
 have akI:=((((Fr.of s4).trans F5).trans (Fr.of s6)).trans F7).trans QC
 have F07:Fr [g] H H7:=(F05.trans (Fr.of s6)).trans F7
 have akJ:Fr [g] H9 (upd Q5 g (.ins A.au dx [("paper",.ref pa),("alone",.int 0),("kinds",.ref kd),("eaches",.ref ed),("together",.ref tg),("asked",.ref aq),("log",.ref lg),("doubles",.ref db),("over",.bl false)])):=((((Fr.of s10).trans F11).trans (Fr.of s12)).trans F13).trans F14
 have aaM:Fr [g] Q4 (upd Q5 g (.ins A.au dx [("paper",.ref pa),("alone",.int 0),("kinds",.ref kd),("eaches",.ref ed),("together",.ref tg),("asked",.ref aq),("log",.ref lg),("doubles",.ref db),("over",.bl false)])):=((Fr.of s12).trans F13).trans F14
 have kd7:H7 kd=some (.dK kvs):=F7 _ _ (s6 _ _ (F5 _ _ (s4 _ _ (F3 _ _ hk (oJ nkd))) (oJ nkd))) (oJ nkd)
 have ed7:H7 ed=some (.dK Yw):=F7 _ _ (s6 _ _ (F5 _ _ he (oJ ned))) (oJ ned)
 have tg7:H7 tg=some (.dK []):=F7 _ _ ht (oJ ntg)
 have hall:=F07.trans QC
 have lgF:Q4 lg=some (.lst []):=F11 _ _ l10 (oJ Es)
 refine k ⟨dx,pa,kd,ed,tg,aq,lg,db,pa⟩ _ rfl rfl hall zB ⟨⟨kvs,QC _ _ kd7 (oJ nkd),fun z hz=>?_⟩,⟨Yw,QC _ _ ed7 (oJ ned),hE⟩,QC _ _ tg7 (oJ ntg),DY F07 (oJ J6) ha,akJ _ _ (F9 _ _ a8 (oJ J6)) (oJ J6),DY (F07.trans ((Fr.of s8).trans F9)) (oJ Es) hl,aaM _ _ lgF (oJ Es),DY (((F07.trans ((Fr.of s8).trans F9)).trans (Fr.of s10)).trans F11) (oJ J7) hdb,F14 _ _ (F13 _ _ d12 (oJ J7)) (oJ J7),zH lgF hdb,zH kd7 ha,zH ed7 ha,zH tg7 ha⟩
 obtain⟨kp,dk,k1,k2⟩:=hK z hz
 have nk:kp≠g:=yP k2 g1 (by intro z;injection z with _ _ z;cases z)
 exact⟨kp,dk,k1,akI _ _ (F3 _ _ (s2 _ _ k2) (oJ nk)) (oJ nk)⟩
theorem aaN (T:Txt K mg A):bw P w K mg base b8 4 A.iM A.iQ ["self","paper","box"] (akG A):=by
 have vp:=Ww (P:=P) (w:=w) (base:=base) T
 refine T.uW.ok uh (fun vs H Q E h=>?_) (fun cdv A0 outer s H vs Q E hr h=>?_)
 · obtain⟨N,g,dx,pa,S,bx,rfl,_⟩:=h
   rfl
 obtain⟨N,g,dx,pa,S,bx,rfl,hg,hP,hQ,k⟩:=h
 refine⟨_,(zC (yQ (xU T.Bk vp ‹hr› rfl T.R8 T.uT zT (zA (pv 0) (zA (pv 1) (zA zG zD)))))
     (zC (yG (pv 0) (pv 2) rfl)
     (zE (yG (pv 0) yF rfl)))),?_⟩
 refine⟨_,rfl,_,rfl,N,g,dx,pa,S,rfl,hg,hP,hQ,fun c H1 e1 e2 F1 h1 Nw=>?_⟩
 subst e1 e2
 refine⟨_,rfl,_,rfl,g,_,c.dx,_,rfl,h1,T.aA,T.tZ,(by show 9<1000;decide),?_⟩
 refine⟨_,rfl,g,_,c.dx,_,rfl,zB,T.aA,T.eZ,(by show 10<1000;decide),?_⟩
 rw [yH]
 have F2:Fr [g] H1 (upd H1 g (Wc A { c with bx:=bx } false .non)):=(Fr.of (aB.refl _)).upd (List.mem_singleton.mpr rfl) _
 have nn:∀ {x:Addr}{o:HO},H1 x=some o→(∀ C dx fs,o≠.ins C dx fs)→(upd H1 g (Wc A { c with bx:=bx } false .non)) x=some o:=fun {x o} hx hn=>F2 _ _ hx (oJ (yP hx h1 (hn _ _ _)))
 obtain⟨⟨kv,n1,n2⟩,⟨Yw,n3,n4⟩,n5,n6,n7,n8,n9,n10,n11,n12,n13,n14,n15⟩:=Nw
 refine k { c with bx:=bx } _ rfl rfl (F1.trans F2) zB ⟨⟨kv,nn n1 (fun _ _ _ z=>by cases z),fun z hz=>?_⟩,⟨Yw,nn n3 (fun _ _ _ z=>by cases z),n4⟩,nn n5 (fun _ _ _ z=>by cases z),n6,nn n7 (fun _ _ _ z=>by cases z),n8,nn n9 (fun _ _ _ z=>by cases z),n10,nn n11 (fun _ _ _ z=>by cases z),n12,n13,n14,n15⟩
 obtain⟨kp,dk,k1,k2⟩:=n2 z hz
 exact⟨kp,dk,k1,F2 _ _ k2 (oJ (yP k2 h1 (by intro z;injection z with _ _ z;cases z)))⟩
def BxR (H:Hp) (bx:Addr) (S:List mR) (rg:Rg):Prop:=∃ b,H bx=some (.dT b)∧∀ r,jD S r→(∃ t,dq b (keyOf r.nm)=some (.ref t)∧H t=some (.tup [.int (rg r.nm).1,.int (rg r.nm).2]))∨(dq b (keyOf r.nm)=none∧rg r.nm=(r.lo,r.hi))
def Wx (H:Hp) (x:V) (sf:Gs):Prop:=∃ p lg db ts cv,x=.ref p∧H p=some (.tup [.bl (decide (sf.ct=none)),.ref lg,.ref db,cv])∧H lg=some (.lst ts)∧Paired (nT H) ts sf.L∧H db=some (.lst (sf.D.map V.str))∧Ng H cv sf.ct
def akK (A:cQ) (Pt:Addr):Sp:=fun vs H Q _=>∃ N pa bx S rg sf,vs=[.ref pa,.ref bx]∧Ql A N H pa S∧GS N S∧BxR H bx S rg∧H Pt=some (.lD uv)∧Fin rg N S 0 vo sf∧∀ x H',aB H H'→Wx H' x sf→Q x H'
variable {Pt:Addr} (B:BMain mg base) {c0:Addr} (hc:A.aL.code=.ref c0) (hh:W.codeHdIn K c0 Pt=true)
include B hc hh
theorem aaO (T:Txt K mg A):bw P w K mg base b8 12 A.nO A.rB ["paper","box"] (akK A Pt):=by
 have vq:=aaN (P:=P) (w:=w) (base:=base) T
 refine T.Jz.ok vR (fun vs H Q E h=>?_) (fun cdv A0 outer s H vs Q E hr h=>?_)
 · obtain⟨N,pa,bx,S,rg,sf,rfl,_⟩:=h
   rfl
 obtain⟨N,pa,bx,S,rg,sf,rfl,hP,hQ,⟨b,hb,hB⟩,hT,hF,k⟩:=h
 obtain⟨k_go,e1⟩:∃ k:Nat,k=11:=⟨_,rfl⟩
 refine⟨_,(zC (zX (i:=2) vR.nd rfl ‹0› (yX T.Qa vq ‹hr› rfl T.R7 T.uX .nil zT (zA (pv 0) (zA (pv 1) zD))))
     (zC (yQ (uH (CX:=b8) (k:=k_go) ‹hr› zT (pv 2)))
     (zE (zN (yC (zA (xJ xG (zK (pv 2) rfl) yF (zQ _)) (zA (zK (pv 2) rfl) (zA (zK (pv 2) rfl) (zA (zK (pv 2) rfl) zD))))))))),?_⟩
 subst e1
 refine⟨_,rfl,_,rfl,fun g dx ng ndx ne=>?_⟩
 have s1:=yE ng ndx (.ins A.au dx [])
 have hg1:(upd (upd H dx (.own g)) g (.ins A.au dx [])) g=some (.ins A.au dx []):=zB
 generalize upd (upd H dx (.own g)) g (.ins A.au dx [])=H1 at s1 hg1 ⊢
 refine⟨N,g,dx,pa,S,bx,rfl,hg1,hP.kq (.of s1),hQ,fun c H2 h2 h3 F h1 Nw=>⟨rfl,?_⟩⟩
 subst h2 h3
 have sH:aB H H2:=fun x u hx=>F _ _ (s1 _ _ hx) (oJ (zH hx ng))
 obtain⟨⟨kv,n1,n2⟩,⟨Yw,n3,n4⟩,n5,n6,n7,n8,n9,n10,n11,n12,n13,n14,n15⟩:=Nw
 have m1:=yM s1 n6
 have m2:=yM s1 n8
 have m3:=yM s1 n10
 generalize hH0:dels H2 [g,c.aq,c.lg,c.db]=H0
 have in0:∀ {x:Addr},x≠g→x≠c.aq→x≠c.lg→x≠c.db→H0 x=H2 x:=fun {x} a1 a2 a3 a4=>by
   rw [← hH0,xB]
   intro z
   simp only [List.mem_cons,List.not_mem_nil,or_false] at z
   rcases z with z | z | z | z
   · exact a1 z
   · exact a2 z
   · exact a3 z
   · exact a4 z
 have QD:∀ {x:Addr},x∈[g,c.aq,c.lg,c.db]→H0 x=none:=fun {x} z=>by rw [← hH0];exact qe z
 have QF:aB H H0:=fun x u hx=>by
   rw [in0 (zH hx ng) (zH hx m1) (zH hx m2) (zH hx m3)];exact sH _ _ hx
 have keep:∀ {x:Addr}{o:HO},H2 x=some o→x≠g→x≠c.aq→(∀ q,o≠.lst q)→H0 x=some o:=fun {x o} hx a1 a2 hn=>by
   rw [in0 a1 a2 (yP hx n9 (hn _)) (yP hx n11 (hn _))];exact hx
 have dg:∀ {x:Addr}{q:List (Key × V)},H2 x=some (.dK q)→x≠g:=fun {x q} hx=>yP hx h1 (by intro z;cases z)
 have s02:aB H0 H2:=fun x u hx=>by
   by_cases e:x∈[g,c.aq,c.lg,c.db]
   · rw [QD e] at hx;cases hx
   · rw [← hH0,xB e] at hx;exact hx
 have G0:gK A N H0 c S rg Pt uv g H2 vo:=by
   refine⟨s02,⟨hP.kq (.of QF),⟨b,QF _ _ hb,fun r hr=>?_⟩,QF _ _ hT,⟨kv,keep n1 (dg n1) n13 (fun _ z=>by cases z),fun z hz=>?_⟩,⟨Yw,keep n3 (dg n3) n14 (fun _ z=>by cases z),n4⟩,keep n5 (dg n5) n15 (fun _ z=>by cases z),hQ⟩,QD (by simp),QD (by simp),QD (by simp),QD (by simp),n12,⟨.non,h1,rfl⟩,⟨[],n7,⟨Nat.le_refl _,(fun z hz=>by cases hz),fun _ _=>rfl⟩,(fun z d hz=>by cases hz)⟩,⟨[],n9,.nil⟩,n11⟩
   · rcases hB r hr with ⟨t,e1,e2⟩ | e1
     · exact .inl ⟨t,e1,QF _ _ e2⟩
     · exact .inr e1
   · obtain⟨kp,dk,k1,k2⟩:=n2 z hz
     exact⟨kp,dk,k1,keep k2 (yP k2 h1 (by intro z;injection z with _ _ z;cases z)) (yP k2 n7 (by intro z;cases z)) (fun _ z=>by cases z)⟩
 refine⟨_,rfl,g,_,c.dx,gF c false .non,JGo B hc hh T,rfl,h1,rfl,?_⟩
 refine⟨N,H0,c,S,rg,g,sf,rfl,G0,hF,fun Kc H3 s3 G3=>?_⟩
 obtain⟨cv,g3,c3⟩:=G3.go
 refine⟨_,rfl,g,_,c.dx,gF c sf.ov cv,_,rfl,g3,T.aA,T.eZ,rfl,rfl,?_⟩
 refine⟨_,rfl,g,_,c.dx,gF c sf.ov cv,_,rfl,g3,T.aA,T.jJ,rfl,_,rfl,g,_,c.dx,gF c sf.ov cv,_,rfl,g3,T.aA,T.iU,rfl,_,rfl,g,_,c.dx,gF c sf.ov cv,_,rfl,g3,T.aA,T.eZ,rfl,(by show 4≤sizeLine;decide),fun p hp=>?_⟩
 have s4:=zF hp (.tup [.bl (decide (cv=.non)),.ref c.lg,.ref c.db,cv])
 have G4:=G3.mono s4
 obtain⟨ts,t1,t2⟩:=G4.lg
 have ec:decide (cv=V.non)=decide (sf.ct=none):=by
   cases hct:sf.ct with
   | none=>rw [hct] at c3;rw [show cv=V.non from c3];rfl
   | some q =>
     rw [hct] at c3
     obtain⟨a,rfl,_⟩:=(show nT H3 cv _ from c3)
     rfl
 refine k (.ref p) _ (((QF.trans s3).trans G3.same).trans s4) ⟨p,c.lg,c.db,ts,cv,rfl,?_,t1,t2,G4.db,c3.kq (.of s4)⟩
 rw [← ec];exact zB
end
def Td (h:Str):Prop:=h=‹"<"›∨h=‹"="›∨h=‹">"›
theorem deI {i j:Int}:decide (V.int i=V.int j)=decide (i=j):=by
 by_cases e:i=j
 · rw [decide_eq_true e,decide_eq_true (by rw [e])]
 · rw [decide_eq_false e,decide_eq_false (fun z=>e (V.int.inj z))]
theorem aaQ (x m:Int):m7 (some x) ‹"<"› m=decide (x<m):=by
 unfold m7
 exact if_pos rfl
theorem aaR (x m:Int):m7 (some x) ‹">"› m=decide (m<x):=by
 unfold m7
 dsimp only
 rw [if_neg (show ¬ (Str.ofString ">" = ‹"<"›) by symm)]
 exact if_pos rfl
theorem aaS (x m:Int):m7 (some x) ‹"="› m=decide (x=m):=by
 unfold m7
 dsimp only
 rw [if_neg (show ¬ (Str.ofString "=" = ‹"<"›) by symm)]
 exact if_neg (show ¬ (Str.ofString "=" = ‹">"›) by symm)
theorem Wz {lo hi m:Int} (h:lo≤hi):oN (lo,hi) ‹"<"› m=if hi<m then some true else if m≤lo then some false else none:=by
 unfold oN
 dsimp only
 rw [aaQ,aaQ]
 by_cases h1:hi<m
 · rw [if_pos h1,if_pos (by simp [h1];omega)]
 · rw [if_neg h1,if_neg (by simp [h1])]
   by_cases h2:m≤lo
   · rw [if_pos h2,if_neg (by simp [h1];omega)]
   · rw [if_neg h2,if_pos (by simp;omega)]
theorem WD {lo hi m:Int} (h:lo≤hi):oN (lo,hi) ‹">"› m=if m<lo then some true else if hi≤m then some false else none:=by
 unfold oN
 dsimp only
 rw [aaR,aaR]
 by_cases h1:m<lo
 · rw [if_pos h1,if_pos (by simp [h1];omega)]
 · rw [if_neg h1,if_neg (by simp [h1])]
   by_cases h2:hi≤m
   · rw [if_pos h2,if_neg (by simp [h1];omega)]
   · rw [if_neg h2,if_pos (by simp;omega)]
theorem WK {lo hi m:Int} (h:lo≤hi):oN (lo,hi) ‹"="› m=if lo=m∧hi=m then some true else if m<lo∨hi<m then some false else none:=by
 unfold oN
 dsimp only
 rw [aaS,aaS]
 by_cases h1:lo=m∧hi=m
 · rw [if_pos h1,if_pos (by simp [h1])]
 · rw [if_neg h1,if_neg (by simpa using h1)]
   by_cases h2:m<lo∨hi<m
   · rw [if_pos h2,if_neg (by simp;omega)]
   · rw [if_neg h2,if_pos (by simp;omega)]
def Yx (H:Hp) (x:V):Sg→Prop
 | none=>x=.non
 | some y=>nT H x [.int (y.1.i:Nat),.str y.1.h,.int y.1.m,.bl y.2]
theorem Yx.kq {H H':Hp} (f:Kq H H') {x:V}{s:Sg} (h:Yx H x s):Yx H' x s:=by
 cases s with
 | none=>exact h
 | some y=>exact nT.kq f h
def sy (H:Hp) (x:V) (v:Wy):Prop:=∃ a y,x=.ref a∧H a=some (.tup [.int ((v.1:Nat) - 1:Int),y])∧Yx H y v.2
theorem sy.kq {H H':Hp} (f:Kq H H') {x:V}{v:Wy} (h:sy H x v):sy H' x v:=by
 obtain⟨a,y,e,h1,h2⟩:=h
 exact⟨a,y,e,f _ _ h1 trivial,h2.kq f⟩
structure Bw (H:Hp) (l:Addr) (sp:Nat→Qn):Prop where
 ex:∃ t0 t1,H l=some (.lst [.ref t0,.ref t1])∧H t0=some (.tup [.int (sp 0).1,.int (sp 0).2])∧H t1=some (.tup [.int (sp 1).1,.int (sp 1).2])
theorem Bw.kq {H H':Hp} (f:Kq H H') {l:Addr}{sp:Nat→Qn} (h:Bw H l sp):Bw H' l sp:=by
 obtain⟨t0,t1,h1,h2,h3⟩:=h.ex
 exact⟨t0,t1,f _ _ h1 trivial,f _ _ h2 trivial,f _ _ h3 trivial⟩
theorem Bw.at {H:Hp}{l:Addr}{sp:Nat→Qn} (h:Bw H l sp) (t:At):∃ ts a,H l=some (.lst ts)∧jc ts ((t.i:Nat):Int)=some (.ref a)∧H a=some (.tup [.int (sp t.i).1,.int (sp t.i).2]):=by
 obtain⟨t0,t1,h1,h2,h3⟩:=h.ex
 cases t with
 | is _=>exact⟨_,t1,h1,zP (j:=1) rfl,h3⟩
 | cmp _ _=>exact⟨_,t0,h1,zP (j:=0) rfl,h2⟩
def QG (sp:Nat→Qn):Prop:=∀ i,(sp i).1≤(sp i).2
def Ke:Sg→Prop
 | none=>True
 | some y=>Td y.1.h
def knS (sp:Nat→Qn):Sg→Option Bool
 | none=>some true
 | some y=>if y.2=true then (oN (sp y.1.i) y.1.h y.1.m).map (!·) else oN (sp y.1.i) y.1.h y.1.m
def Te:Sp:=fun vs H Q _=>∃ h lo hi m,vs=[.str h,.int lo,.int hi,.int m]∧Td h∧lo≤hi∧Q (tv (oN (lo,hi) h m)) H
def WL:Sp:=fun vs H Q _=>∃ (t:At) (lo:Int),vs=[.str t.h,.int lo,.int t.m]∧Td t.h∧Q (.int (Ef t lo)) H
def Tf:Sp:=fun vs H Q _=>∃ x sg l sp,vs=[x,.ref l]∧Yx H x sg∧Ke sg∧Bw H l sp∧QG sp∧Q (tv (knS sp sg)) H
section
variable {P:Program}{w:World}{K:W.Frag}{mg:Str→Option Value}{base:Heap}{A:cQ}
theorem Ej (T:Txt K mg A):bw P w K mg base b8 1 A.lH A.o8 ["_law_how","_law_low","_law_high","_law_number"] Te:=by
 refine T.Gn.ok DW (fun vs H Q E h=>?_) (fun cdv A0 outer s H vs Q E hr h=>?_)
 · obtain⟨h,lo,hi,m,rfl,_⟩:=h
   rfl
 obtain⟨h,lo,hi,m,rfl,hw,hle,q⟩:=h
 refine⟨_,(zC (yA (PW.pt (qM (PW.pt (jn (zO yY (pv 0) yB (zQ _)) (xP (zO sE (pv 2) (pv 3) (zQ _))))) (mj (PW.pt (jn (zO yY (pv 0) yB (zQ _)) (xP (zO Fb (pv 1) (pv 3) (zQ _)))))))) (zE (zN xM)) zR)
     (zC (yA (PW.pt (jn (zO yY (pv 0) yB (zQ _)) (jn (zO yY (pv 1) (pv 3) (zQ _)) (xP (zO yY (pv 2) (pv 3) (zQ _)))))) (zE (zN xM)) zR)
     (zC (yA (PW.pt (qM (PW.pt (jn (zO yY (pv 0) yB (zQ _)) (xP (zO ZJ (pv 1) (pv 3) (zQ _))))) (mj (PW.pt (jn (zO yY (pv 0) yB (zQ _)) (xP (zO ZG (pv 2) (pv 3) (zQ _)))))))) (zE (zN xM)) zR)
     (zC (yA (PW.pt (jn (zO yY (pv 0) yB (zQ _)) (xP (PW.pt (qM (zO Fb (pv 1) (pv 3) (zQ _)) (mj (zO sE (pv 2) (pv 3) (zQ _)))))))) (zE (zN xM)) zR)
     (zE (zN yF)))))),?_⟩
 have nLE:‹"<"› ≠ ‹"="›:=by symm
 have nLG:‹"<"› ≠ ‹">"›:=by symm
 have nEL:‹"="› ≠ ‹"<"›:=by symm
 have nEG:‹"="› ≠ ‹">"›:=by symm
 have nGL:‹">"› ≠ ‹"<"›:=by symm
 have nGE:‹">"› ≠ ‹"="›:=by symm
 rcases hw with rfl | rfl | rfl
 · rw [Wz hle] at q
   refine⟨_,rfl,rfl,_,rfl,Nf rfl ⟨_,rfl,_,rfl,_,_,rfl,rfl,_,rfl,?_⟩⟩
   refine mW (fun d=>?_) (fun d=>?_)
   · rw [if_pos (of_decide_eq_true d)] at q
     exact bM q
   rw [if_neg (fun z=>d (decide_eq_true z))] at q
   refine⟨_,rfl,rfl,_,rfl,Eb nLG (aW ?_)⟩
   refine⟨_,rfl,rfl,_,rfl,Eb nLE (aW ?_)⟩
   refine⟨_,rfl,rfl,_,rfl,Nf rfl ⟨_,rfl,_,rfl,_,_,rfl,rfl,_,rfl,?_⟩⟩
   refine mW (fun d=>?_) (fun d=>?_)
   · rw [if_pos (of_decide_eq_true d)] at q
     exact bM q
   rw [if_neg (fun z=>d (decide_eq_true z))] at q
   refine⟨_,rfl,rfl,_,rfl,Eb nLG (aW ?_)⟩
   exact⟨_,rfl,rfl,_,rfl,Eb nLE (aW q)⟩
 · rw [WK hle] at q
   refine⟨_,rfl,rfl,_,rfl,Eb nEL (aW ⟨_,rfl,rfl,_,rfl,Eb nEG (aW ?_)⟩)⟩
   have last:(¬ (lo=m∧hi=m))→Ri
       (U9 (Zo (Rh (nW (Il Ve (mV 0) (tC (V.str ‹"<"›)))) (nW (Il (M9 fun i j=>V.bl (decide (j≤i))) (mV 1) (mV 3)))) (Rh (nW (Il Ve (mV 0) (tC (V.str ‹">"›)))) (nW (Il (M9 fun i j=>V.bl (decide (i≤j))) (mV 2) (mV 3))))) (Rj (tC (V.bl false))) EY)
       (Ri (U9 (Rh (nW (Il Ve (mV 0) (tC (V.str ‹"="›)))) (Zo (nW (Il (M9 fun i j=>V.bl (decide (j<i))) (mV 1) (mV 3))) (nW (Il (M9 fun i j=>V.bl (decide (i<j))) (mV 2) (mV 3))))) (Rj (tC (V.bl false))) EY) (Rj (tC V.non)))
       { nx:=fun _ H'=>Q V.non H',rt:=Q } (L2.start [‹"_law_how"›,‹"_law_low"›,‹"_law_high"›,‹"_law_number"›] [V.str ‹"="›,V.int lo,V.int hi,V.int m]) H:=fun hn=>by
     rw [if_neg hn] at q
     refine⟨_,rfl,rfl,_,rfl,Eb nEL (aW ⟨_,rfl,rfl,_,rfl,Eb nEG (aW ?_)⟩)⟩
     refine⟨_,rfl,rfl,_,rfl,Nf rfl ⟨_,rfl,_,rfl,_,_,rfl,rfl,_,rfl,?_⟩⟩
     refine mW (fun d=>?_) (fun d=>?_)
     · rw [if_pos (.inl (of_decide_eq_true d))] at q
       exact bM q
     refine⟨_,rfl,_,rfl,_,_,rfl,rfl,_,rfl,mW (fun e=>?_) (fun e=>?_)⟩
     · rw [if_pos (.inr (of_decide_eq_true e))] at q
       exact q
     rw [if_neg (fun z=>z.elim (fun z=>d (decide_eq_true z)) (fun z=>e (decide_eq_true z)))] at q
     exact q
   refine⟨_,rfl,rfl,_,rfl,Nf rfl ⟨_,rfl,_,rfl,rfl,_,rfl,?_⟩⟩
   rw [deI]
   refine mW (fun d=>?_) (fun d=>?_)
   · refine⟨_,rfl,_,rfl,rfl,_,rfl,?_⟩
     rw [deI]
     refine mW (fun e=>?_) (fun e=>last fun z=>e (decide_eq_true z.2))
     rw [if_pos ⟨of_decide_eq_true d,of_decide_eq_true e⟩] at q
     exact q
   · exact aW (last fun z=>d (decide_eq_true z.1))
 · rw [WD hle] at q
   refine⟨_,rfl,rfl,_,rfl,Eb nGL (aW ?_)⟩
   refine⟨_,rfl,rfl,_,rfl,Nf rfl ⟨_,rfl,_,rfl,_,_,rfl,rfl,_,rfl,?_⟩⟩
   refine mW (fun d=>?_) (fun d=>?_)
   · rw [if_pos (of_decide_eq_true d)] at q
     exact q
   rw [if_neg (fun z=>d (decide_eq_true z))] at q
   refine⟨_,rfl,rfl,_,rfl,Eb nGE (aW ?_)⟩
   refine⟨_,rfl,rfl,_,rfl,Eb nGL (aW ?_)⟩
   refine⟨_,rfl,rfl,_,rfl,Nf rfl ⟨_,rfl,_,rfl,_,_,rfl,rfl,_,rfl,?_⟩⟩
   refine mW (fun d=>?_) (fun d=>?_)
   · rw [if_pos (of_decide_eq_true d)] at q
     exact q
   rw [if_neg (fun z=>d (decide_eq_true z))] at q
   exact⟨_,rfl,rfl,_,rfl,Eb nGE (aW q)⟩
theorem Kf (T:Txt K mg A):bw P w K mg base b8 1 A.qi A.uK ["_law_how","_law_low","_law_number"] WL:=by
 refine T.Mt.ok JX (fun vs H Q E h=>?_) (fun cdv A0 outer s H vs Q E hr h=>?_)
 · obtain⟨t,lo,rfl,_⟩:=h
   rfl
 obtain⟨t,lo,rfl,hw,q⟩:=h
 refine⟨_,(zC (yA (PW.pt (qM (zO yY (pv 0) yB (zQ _)) (mj (PW.pt (jn (zO yY (pv 0) yB (zQ _)) (xP (zO sE (pv 1) (pv 2) (zQ _)))))))) (zE (zN (zV uB (pv 2) zG))) zR)
     (zE (zN (pv 2)))),?_⟩
 unfold Ef at q
 generalize t.h=h at hw q ⊢
 generalize t.m=m at q ⊢
 have nEL:‹"="› ≠ ‹"<"›:=by symm
 have nEG:‹"="› ≠ ‹">"›:=by symm
 have nGL:‹">"› ≠ ‹"<"›:=by symm
 have nGE:‹">"› ≠ ‹"="›:=by symm
 rcases hw with rfl | rfl | rfl
 · rw [if_pos rfl] at q
   exact⟨_,rfl,rfl,_,rfl,Nf rfl ⟨_,rfl,_,_,rfl,rfl,q⟩⟩
 · rw [if_neg nEL,if_neg nEG] at q
   unfold MP at q
   refine⟨_,rfl,rfl,_,rfl,Eb nEL ⟨_,rfl,rfl,_,rfl,Nf rfl ⟨_,rfl,_,rfl,_,_,rfl,rfl,_,rfl,mW (fun d=>?_) (fun d=>?_)⟩⟩⟩
   · rw [if_pos (of_decide_eq_true d)] at q
     exact⟨_,rfl,_,_,rfl,rfl,q⟩
   · rw [if_neg (fun z=>d (decide_eq_true z))] at q
     exact⟨_,rfl,q⟩
 · rw [if_neg nGL,if_pos rfl] at q
   exact⟨_,rfl,rfl,_,rfl,Eb nGL ⟨_,rfl,rfl,_,rfl,Eb nGE (aW ⟨_,rfl,q⟩)⟩⟩
theorem Ek (T:Txt K mg A):bw P w K mg base b8 2 A.lL A.pq ["_law_said","_law_spans_here"] Tf:=by
 have HJ:=Ej (P:=P) (w:=w) (base:=base) T
 refine T.GC.ok uo (fun vs H Q E h=>?_) (fun cdv A0 outer s H vs Q E hr h=>?_)
 · obtain⟨x,sg,l,sp,rfl,_⟩:=h
   rfl
 obtain⟨x,sg,l,sp,rfl,hx,hok,hS,hsp,q⟩:=h
 refine⟨_,(zC (yA (zO xG (pv 0) yF (zQ _)) (zE (zN xM)) zR)
     (zC (zX (i:=2) uo.nd rfl ‹0› (zZ HJ ‹hr› rfl T.Gu T.Gq T.Gp .nil zT (zA (zW yR (pv 0) zG (fun _ _=>rfl)) (zA (zW yR (zW aV (pv 1) (zW yR (pv 0) zG (fun _ _=>rfl)) (fun _ _=>rfl)) zG (fun _ _=>rfl)) (zA (zW yR (zW aV (pv 1) (zW yR (pv 0) zG (fun _ _=>rfl)) (fun _ _=>rfl)) zG (fun _ _=>rfl)) (zA (zW yR (pv 0) zG (fun _ _=>rfl)) zD))))))
     (zC (yA (zO xG (pv 2) yF (zQ _)) (zE (zN yF)) zR)
     (zE (zN (xJ NK (pv 2) (zW yR (pv 0) zG (fun _ _=>rfl)) (zQ _))))))),?_⟩
 cases sg with
 | none =>
   have hx:x=.non:=hx
   subst hx
   exact⟨_,rfl,rfl,_,rfl,bM q⟩
 | some y =>
   obtain⟨a,rfl,ha⟩:=(show nT H x _ from hx)
   obtain⟨ts,t,l1,l2,l3⟩:=hS.at y.1
   have ha':ik K H a _:=ik.of ha
   have hl':b7 K H l _:=b7.of l1
   have ht':ik K H t _:=ik.of l3
   have i0:jc [V.int (y.1.i:Nat),.str y.1.h,.int y.1.m,.bl y.2] ((0:Nat):Int)=some (.int (y.1.i:Nat)):=zP rfl
   have i1:jc [V.int (y.1.i:Nat),.str y.1.h,.int y.1.m,.bl y.2] ((1:Nat):Int)=some (.str y.1.h):=zP rfl
   have i2:jc [V.int (y.1.i:Nat),.str y.1.h,.int y.1.m,.bl y.2] ((2:Nat):Int)=some (.int y.1.m):=zP rfl
   have i3:jc [V.int (y.1.i:Nat),.str y.1.h,.int y.1.m,.bl y.2] ((3:Nat):Int)=some (.bl y.2):=zP rfl
   have j0:jc [V.int (sp y.1.i).1,V.int (sp y.1.i).2] ((0:Nat):Int)=some (.int (sp y.1.i).1):=zP rfl
   have j1:jc [V.int (sp y.1.i).1,V.int (sp y.1.i).2] ((1:Nat):Int)=some (.int (sp y.1.i).2):=zP rfl
   refine⟨_,rfl,rfl,_,rfl,aW ?_⟩
   refine⟨_,rfl,a,_,_,_,rfl,rfl,ha',i1,_,rfl,_,rfl,a,_,_,_,rfl,rfl,ha',i0,l,_,_,_,rfl,rfl,hl',l2,t,_,_,_,rfl,rfl,ht',j0,_,rfl,_,rfl,a,_,_,_,rfl,rfl,ha',i0,l,_,_,_,rfl,rfl,hl',l2,t,_,_,_,rfl,rfl,ht',j1,_,rfl,a,_,_,_,rfl,rfl,ha',i2,?_⟩
   refine⟨y.1.h,_,_,y.1.m,rfl,hok,hsp y.1.i,?_⟩
   have q:Q (tv (if y.2=true then (oN (sp y.1.i) y.1.h y.1.m).map (!·) else oN (sp y.1.i) y.1.h y.1.m)) H:=q
   have es:oN ((sp y.1.i).1,(sp y.1.i).2) y.1.h y.1.m=oN (sp y.1.i) y.1.h y.1.m:=rfl
   rw [es]
   generalize oN (sp y.1.i) y.1.h y.1.m=r at q ⊢
   cases r with
   | none =>
     refine⟨_,rfl,rfl,_,rfl,bM ?_⟩
     revert q
     cases y.2 <;> exact fun q=>q
   | some b =>
     refine⟨_,rfl,rfl,_,rfl,aW ⟨_,rfl,_,rfl,a,_,_,_,rfl,rfl,ha',i3,rfl,?_⟩⟩
     revert q
     cases y.2 <;> cases b <;> exact fun q=>q
end
theorem Kg {rg:Rg}{N:Nm}{sp:Nat→Qn} (e:∀ i,sp i=rg (N i)) (y:Sy):knS sp (some y)=tri rg N y:=by
 show (if y.2=true then (oN (sp y.1.i) y.1.h y.1.m).map (!·) else oN (sp y.1.i) y.1.h y.1.m)=_
 rw [e]
 rfl
theorem QH {rg:Rg}{N:Nm}{sp:Nat→Qn} (e:∀ i,sp i=rg (N i)) (v:Sg):S8 rg N v=decide (knS sp v=some true):=by
 cases v with
 | none=>rfl
 | some y=>rw [Kg e];rfl
theorem WM {rg:Rg}{N:Nm}{sp:Nat→Qn} (e:∀ i,sp i=rg (N i)) {v:Sg} (s:Gs) (h:knS sp v≠none):Ia rg N s v=s:=by
 cases v with
 | none=>rfl
 | some y=>rw [Kg e] at h;exact if_neg h
theorem K7 {rg:Rg}{N:Nm}:∀ (ws:List Wy) (p:Gs × List Nat),p.1.ov=true→ws.foldl (fW rg N) p=p
 | [],_,_=>rfl
 | v::ws,p,h=>by
   have e:fW rg N p v=p:=if_pos h
   rw [List.foldl_cons,e]
   exact K7 ws p h
def hdV (l:List Nat):V:=match l with
 | []=>.non
 | a::_=>.int ((a:Nat) - 1:Int)
def LdR (Hb H:Hp) (x:V) (p:Gs × List Nat) (z:Str):Prop:=∃ a u c d,x=.ref a∧Hb d=none∧H a=some (.tup [u,c,.ref d])∧Ng H c p.1.ct∧(p.1.ct=none→u=hdV p.2)∧H d=some (.lst (if p.1.ct=none∧1<p.2.length then [.str z] else []))
def K8 (H:Hp) (l:Addr) (N:Nm):Prop:=H l=some (.lst [.str (N 0),.str (N 1),.str (N 2),.str (N 3)])
theorem K8.at {H:Hp}{l:Addr}{N:Nm} (h:K8 H l N) (t:At):∃ ts,H l=some (.lst ts)∧jc ts ((t.i:Nat):Int)=some (.str (N t.i)):=by
 cases t with
 | is _=>exact⟨_,h,zP (j:=1) rfl⟩
 | cmp _ _=>exact⟨_,h,zP (j:=0) rfl⟩
def aaX:Sp:=fun vs H Q _=>∃ nl z wl xs l rg N sp ws s,vs=[.ref nl,.str z,.ref wl,.ref l]∧K8 H nl N∧H wl=some (.lst xs)∧Paired (sy H) xs ws∧(∀ v∈ws,Ke v.2)∧ws.length≤10∧Bw H l sp∧QG sp∧(∀ i,sp i=rg (N i))∧s.ov=false∧s.ct=none∧∀ x H',aB H H'→LdR H H' x (aM rg N s ws) z→Q x H'
section
variable {P:Program}{w:World}{K:W.Frag}{mg:Str→Option Value}{base:Heap}{A:cQ}
theorem Kh (T:Txt K mg A):bw P w K mg base b8 3 A.ql A.uM ["_law_names","_law_sheet","_law_ways","_law_spans_here"] aaX:=by
 have HN:=Ek (P:=P) (w:=w) (base:=base) T
 have M6:=Kf (P:=P) (w:=w) (base:=base) T
 refine T.My.ok kZ (fun vs H Q E h=>?_) (fun cdv A0 outer s H vs Q E hr h=>?_)
 · obtain⟨nl,z,wl,xs,l,rg,N,sp,ws,s,rfl,_⟩:=h
   rfl
 obtain⟨nl,z,wl,xs,l,rg,N,sp,ws,s,rfl,hN,hwl,hW,hok,hlen,hS,hsp,he,hov,hct,q⟩:=h
 refine⟨_,(zC (zX (i:=4) kZ.nd rfl ‹0› (yN zD))
     (zC (jd PassesOwn.never rfl (xA (pv 2)) (uA rfl (yT (yL (i:=5) kZ.nd rfl ‹0›) (yT (yL (i:=6) kZ.nd rfl ‹0›) p8))) (zC (zX (i:=7) kZ.nd rfl ‹0› (zZ HN ‹hr› rfl T.GJ T.GF T.GD .nil zT (zA (pv 6) (zA (pv 3) zD))))
     (zC (yA (zO xG (pv 7) yF (zQ _)) (zE (zN (yC (zA yF (zA (yC (zA (zW aV (pv 0) (zW yR (pv 6) zG (fun _ _=>rfl)) (fun _ _=>rfl)) (zA zG (zA (zZ M6 ‹hr› rfl T.Mw T.Mv T.Mu .nil zT (zA (zW yR (pv 6) zG (fun _ _=>rfl)) (zA (zW yR (zW aV (pv 3) (zW yR (pv 6) zG (fun _ _=>rfl)) (fun _ _=>rfl)) zG (fun _ _=>rfl)) (zA (zW yR (pv 6) zG (fun _ _=>rfl)) zD)))) zD)))) (zA (yN zD) zD)))))) zR)
     (zE (yA (NQ (pv 7) (by intro _;rfl)) (zE (yQ (vD PySem.F.plainAttrs_list PySem.F.slot_list_append PySem.F.type_list_append iw (pv 4) (zA (pv 5) zD)))) zR)))))
     (zE (zN (yC (zA (zW aV (zV Dc (pv 4) (yN (zA yF zD))) zG (fun _ _=>rfl)) (zA yF (zA (zV R4 (yN (zA (pv 1) zD)) (jN Lx (by rfl) T.Ub Bt.int (zA (xJ Fb (zY yU (by rfl) T.vN PySem.boot_len (zA (pv 4) zD)) zG (zQ _)) zD))) zD)))))))),?_⟩
 refine⟨(by show 0≤sizeLine;decide),fun d hd=>?_⟩
 have s1:=zF hd (.lst [])
 have lx:=zU hW
 refine⟨_,rfl,wl,rfl,⟨xs,b7.of (s1 _ _ hwl)⟩,?_⟩
 refine xL (xs:=xs) (fun j σ H'=>∃ u v k hs,σ=[some (.ref nl),some (.str z),some (.ref wl),some (.ref l),some (.ref d),u,v,k]∧aB H H'∧H' d=some (.lst (hs.map fun (a:Nat)=>V.int ((a:Nat) - 1:Int)))∧aM rg N s (ws.take j)=(s,hs)∧hs.length≤j) ⟨_,_,_,[],rfl,s1,zB,rfl,Nat.le_refl _⟩ (fun j σ H2 hj hw=>?_) (fun j x σ H2 hx2 hw=>?_) (fun σ H2 hw=>?_)
 · obtain⟨u,v,k,hs,rfl,f,_⟩:=hw
   exact b7.of (f _ _ hwl)
 · obtain⟨u,v,k,hs,rfl,f,hd2,hF,hl⟩:=hw
   obtain⟨v1,hv1,hR⟩:=yK hW hx2
   have auY:j<10:=by have:=(List.getElem?_eq_some_iff.mp hv1).1;omega
   obtain⟨ta,y1,rfl,b1,b2⟩:=hR
   have kq:Kq H H2:=.of f
   refine⟨ta,_,rfl,ik.of (f _ _ b1),rfl,_,_,rfl,_,_,rfl,rfl,?_⟩
   dsimp only [dH,List.set_cons_succ,List.set_cons_zero]
   have hst:=take_snoc hv1
   have hmem:=List.mem_of_getElem? hv1
   have WN:aM rg N s (ws.take (j+1))=(Ia rg N s v1.2,if S8 rg N v1.2=true then hs++[v1.1] else hs):=by
     rw [hst,Cz,hF]
     exact if_neg (by rw [show (s,hs).1.ov=false from hov];decide)
   refine⟨_,rfl,_,rfl,y1,v1.2,l,sp,rfl,b2.kq kq,hok v1 hmem,hS.kq kq,hsp,?_⟩
   cases hk:knS sp v1.2 with
   | none =>
     refine⟨_,rfl,rfl,_,rfl,bM ?_⟩
     cases hv:v1.2 with
     | none=>rw [hv] at hk;cases hk
     | some y =>
       rw [hv] at b2 hk WN
       obtain⟨ya,rfl,hy⟩:=(show nT H y1 _ from b2)
       obtain⟨ts,t,l1,l2,l3⟩:=(hS.kq kq).at y.1
       obtain⟨ns,n1,n2⟩:=(show K8 H2 nl N from f _ _ hN).at y.1
       have ha':ik K H2 ya _:=ik.of (f _ _ hy)
       have hl':b7 K H2 l _:=b7.of l1
       have hn':b7 K H2 nl _:=b7.of n1
       have ht':ik K H2 t _:=ik.of l3
       have i0:jc [V.int (y.1.i:Nat),.str y.1.h,.int y.1.m,.bl y.2] ((0:Nat):Int)=some (.int (y.1.i:Nat)):=zP rfl
       have i1:jc [V.int (y.1.i:Nat),.str y.1.h,.int y.1.m,.bl y.2] ((1:Nat):Int)=some (.str y.1.h):=zP rfl
       have i2:jc [V.int (y.1.i:Nat),.str y.1.h,.int y.1.m,.bl y.2] ((2:Nat):Int)=some (.int y.1.m):=zP rfl
       have j0:jc [V.int (sp y.1.i).1,V.int (sp y.1.i).2] ((0:Nat):Int)=some (.int (sp y.1.i).1):=zP rfl
       refine⟨_,rfl,_,rfl,ya,_,_,_,rfl,rfl,ha',i0,nl,_,_,_,rfl,rfl,hn',n2,?_⟩
       refine⟨_,rfl,ya,_,_,_,rfl,rfl,ha',i1,_,rfl,_,rfl,ya,_,_,_,rfl,rfl,ha',i0,l,_,_,_,rfl,rfl,hl',l2,t,_,_,_,rfl,rfl,ht',j0,_,rfl,ya,_,_,_,rfl,rfl,ha',i2,?_⟩
       have hhw:Td y.1.h:=by have:=hok v1 hmem;rw [hv] at this;exact this
       refine⟨y.1,_,rfl,hhw,(by show 3≤sizeLine;decide),fun c hc=>?_⟩
       have s3:=zF hc (.tup [.str (N y.1.i),.int 0,.int (Ef y.1 (sp y.1.i).1)])
       refine⟨(by show 0≤sizeLine;decide),fun e he'=>?_⟩
       have s4:=zF he' (.lst [])
       refine⟨(by show 3≤sizeLine;decide),fun p hp=>?_⟩
       have s5:=zF hp (.tup [.non,.ref c,.ref e])
       have hfin:aM rg N s ws=(⟨s.l,s.L,s.D,true,some (N y.1.i,Ef y.1 (sp y.1.i).1)⟩,hs):=by
         have e0:Ia rg N s (some y)=⟨s.l,s.L,s.D,true,some (N y.1.i,Ef y.1 (sp y.1.i).1)⟩:=by
           rw [Kg he] at hk
           rw [he]
           exact if_pos hk
         have e1:S8 rg N (some y)=false:=by rw [QH he,hk];rfl
         rw [e0,e1,if_neg (by decide)] at WN
         conv=>lhs;rw [← List.take_append_drop (j+1) ws]
         unfold aM at WN ⊢
         rw [List.foldl_append,WN]
         exact K7 _ _ rfl
       refine q (.ref p) _ (((f.trans s3).trans s4).trans s5) ?_
       rw [hfin]
       exact⟨p,_,.ref c,e,rfl,yM (f.trans s3) he',zB,⟨c,rfl,s5 _ _ (s4 _ _ zB)⟩,(fun z=>by cases z),by rw [if_neg (fun z=>by cases z.1)];exact s5 _ _ zB⟩
   | some b =>
     refine⟨_,rfl,rfl,_,rfl,aW ?_⟩
     have e0:=WM he (v:=v1.2) s (by rw [hk];simp)
     have e1:=QH he v1.2
     rw [hk] at e1
     rw [e0,e1] at WN
     refine⟨_,rfl,b,rfl,?_⟩
     cases b with
     | true =>
       refine bM ⟨_,rfl,.inl ⟨rfl,_,b7.of hd2⟩,_,rfl,d,_,_,rfl,rfl,hd2,yJ (m:=1000) (by rw [List.length_map];omega),?_⟩
       exact⟨_,_,_,hs++[v1.1],rfl,lA f hd _,by rw [zB,List.map_append];rfl,WN,by rw [List.length_append];exact Nat.add_le_add_right hl 1⟩
     | false=>exact aW ⟨_,_,_,hs,rfl,f,hd2,WN,by omega⟩
 · obtain⟨u,v,k,hs,rfl,f,hd2,hF,hl⟩:=hw
   rw [lx,List.take_length] at hF
   rw [hF] at q
   refine⟨_,rfl,(by show 1≤sizeLine;decide),fun nb hnb=>?_⟩
   have s3:=zF hnb (.lst [.non])
   refine⟨d,nb,_,_,rfl,rfl,s3 _ _ hd2,zB,yJ (m:=1000) (by rw [List.length_map];show hs.length+1≤1000;omega),fun cp hcp=>?_⟩
   have s4:=zF hcp (.lst ((hs.map fun (a:Nat)=>V.int ((a:Nat) - 1:Int))++[.non]))
   have hat:jc ((hs.map fun (a:Nat)=>V.int ((a:Nat) - 1:Int))++[.non]) ((0:Nat):Int)=some (hdV hs):=by
     cases hs with
     | nil=>exact zP rfl
     | cons a r=>exact zP rfl
   refine⟨cp,_,_,_,rfl,rfl,b7.of zB,hat,?_⟩
   refine⟨_,rfl,(by show 1≤sizeLine;decide),fun zl hzl=>?_⟩
   have s5:=zF hzl (.lst [.str z])
   refine⟨_,rfl,d,_,rfl,.inl (b7.of (s5 _ _ (s4 _ _ (s3 _ _ hd2)))),_,_,rfl,rfl,.inr ⟨_,rfl,?_⟩⟩
   have aaY:decide ((((hs.map fun (a:Nat)=>V.int ((a:Nat) - 1:Int)).length:Nat):Int) > 1)=decide (1<hs.length):=by
     rw [List.length_map]
     by_cases e:1<hs.length
     · rw [decide_eq_true e,decide_eq_true (by omega)]
     · rw [decide_eq_false e,decide_eq_false (by omega)]
   have fin:∀ (n:Int),n=(if decide (1<hs.length)=true then 1 else 0)→(0≤n∧n≤1000∧[V.str z].length*n.toNat≤1000∧(List.replicate n.toNat [V.str z]).flatten=(if s.ct=none∧1<hs.length then [.str z] else [])):=fun n e=>by
     by_cases h1:1<hs.length
     · rw [if_pos (decide_eq_true h1)] at e
       subst e
       rw [if_pos ⟨hct,h1⟩]
       exact⟨by decide,by decide,by show 1*1≤1000;decide,rfl⟩
     · rw [if_neg (by rw [decide_eq_false h1];decide)] at e
       subst e
       rw [if_neg (fun z=>h1 z.2)]
       exact⟨by decide,by decide,by show 1*0≤1000;decide,rfl⟩
   obtain⟨f1,f2,f3,f4⟩:=fin (if decide ((((hs.map fun (a:Nat)=>V.int ((a:Nat) - 1:Int)).length:Nat):Int) > 1)=true then 1 else 0) (by rw [aaY])
   refine⟨zl,_,_,rfl,rfl,zB,f1,f2,f3,fun r hr'=>?_⟩
   rw [f4]
   have s6:=zF hr' (.lst (if s.ct=none∧1<hs.length then [V.str z] else []))
   refine⟨(by show 3≤sizeLine;decide),fun p hp=>?_⟩
   have s7:=zF hp (.tup [hdV hs,.non,.ref r])
   refine q (.ref p) _ ((((f.trans s3).trans s4).trans s5).trans (s6.trans s7)) ⟨p,_,_,r,rfl,yM (((f.trans s3).trans s4).trans s5) hr',zB,?_,fun _=>rfl,s7 _ _ zB⟩
   show Ng _ V.non s.ct
   rw [hct];rfl
end
theorem K9 {rg:Rg}{N:Nm}:∀ (ws:List Wy) (p:Gs × List Nat),p.1.ov=p.1.ct.isSome→(ws.foldl (fW rg N) p).1.ov=(ws.foldl (fW rg N) p).1.ct.isSome
 | [],_,h=>h
 | v::ws,p,h=>by
   rw [List.foldl_cons]
   refine K9 ws _ ?_
   unfold fW
   split
   · exact h
   · cases hv:v.2 with
     | none=>exact h
     | some y =>
       show (Ia rg N p.1 (some y)).ov=(Ia rg N p.1 (some y)).ct.isSome
       unfold Ia
       dsimp only
       split
       · rfl
       · exact h
theorem La {rg:Rg}{N:Nm}{s:Gs} (h1:s.ov=false) (h2:s.ct=none) (ws:List Wy):(aM rg N s ws).1.ov=(aM rg N s ws).1.ct.isSome:=K9 ws (s,[]) (by rw [show (s,([]:List Nat)).1.ov=false from h1,show (s,([]:List Nat)).1.ct=none from h2];rfl)
def ux (j:Nat) (s:Gs) (r:Rw):Gs:=if j=2 then ⟨s.l++[r.nm],s.L++[jM r.nm]++[Bu],s.D,true,s.ct⟩ else ⟨s.l,s.L++[Bu],s.D,true,s.ct⟩
abbrev zS:Str:=‹"start"›
abbrev zM:Str:=‹"middle"›
abbrev zL:Str:=‹"last"›
def goM (rg:Rg) (N:Nm) (R2 R3:Rw) (more:List Wy) (s:Gs):Gs :=
 if (su (aM rg N (aU s [R2]) more) zM).ov=true then su (aM rg N (aU s [R2]) more) zM else ux (Bv (aM rg N (aU s [R2]) more).2 1) (su (aM rg N (aU s [R2]) more) zM) R3
def WQ (rg:Rg) (N:Nm) (R0 R1 R2 R3:Rw) (ws more:List Wy):Gs :=
 if (su (aM rg N (aU vo [R0,R1]) ws) zS).ov=true then su (aM rg N (aU vo [R0,R1]) ws) zS
 else if Bv (aM rg N (aU vo [R0,R1]) ws).2 0=1 then goM rg N R2 R3 more (su (aM rg N (aU vo [R0,R1]) ws) zS)
 else ux (Bv (aM rg N (aU vo [R0,R1]) ws).2 0) (su (aM rg N (aU vo [R0,R1]) ws) zS) R3
theorem Ur {rg:Rg}{N:Nm}{a b:mR}{R3:Rw}{j:Nat}{s:Gs} (hs:s.ov=false) (h2:2≤j):Fin rg N [a,b,(zL,[R3],[])] j s (ux j s R3):=by
 unfold ux
 by_cases e:j=2
 · subst e
   rw [if_pos rfl]
   refine .step hs rfl ?_
   have e1:su (aM rg N (aU s [R3]) []) zL=aU s [R3]:=if_neg (fun z=>absurd z.1 (show ¬ 1<0 by decide))
   show Fin rg N _ 3 (su (aM rg N (aU s [R3]) []) zL) _
   rw [e1]
   exact .done hs (Nat.le_refl _)
 · rw [if_neg e]
   exact .done hs (by show 3≤j;omega)
theorem WR {rg:Rg}{N:Nm}{R0 R1 R2 R3:Rw}{ws more:List Wy} (hw:∀ v∈ws,0<v.1) (hm:∀ v∈more,1<v.1):Fin rg N [(zS,[R0,R1],ws),(zM,[R2],more),(zL,[R3],[])] 0 vo (WQ rg N R0 R1 R2 R3 ws more):=by
 refine .step rfl rfl ?_
 unfold WQ
 show Fin rg N _ (Bv (aM rg N (aU vo [R0,R1]) ws).2 0) (su (aM rg N (aU vo [R0,R1]) ws) zS) _
 have pos:0<Bv (aM rg N (aU vo [R0,R1]) ws).2 0:=by
   cases h:(aM rg N (aU vo [R0,R1]) ws).2 with
   | nil=>exact Nat.zero_lt_succ _
   | cons a r =>
     obtain⟨v,hv,rfl⟩:=Af (a:=a) (by rw [h];exact List.mem_cons_self)
     exact hw v hv
 generalize Bv (aM rg N (aU vo [R0,R1]) ws).2 0=j at pos ⊢
 generalize su (aM rg N (aU vo [R0,R1]) ws) zS=s2
 cases ho:s2.ov with
 | true=>rw [if_pos rfl];exact .over ho
 | false =>
   rw [if_neg (by decide)]
   by_cases e:j=1
   · subst e
     rw [if_pos rfl]
     refine .step ho rfl ?_
     unfold goM
     show Fin rg N _ (Bv (aM rg N (aU s2 [R2]) more).2 1) (su (aM rg N (aU s2 [R2]) more) zM) _
     have pos2:2≤Bv (aM rg N (aU s2 [R2]) more).2 1:=by
       cases h:(aM rg N (aU s2 [R2]) more).2 with
       | nil=>exact Nat.le_refl _
       | cons a r =>
         obtain⟨v,hv,rfl⟩:=Af (a:=a) (by rw [h];exact List.mem_cons_self)
         exact hm v hv
     generalize Bv (aM rg N (aU s2 [R2]) more).2 1=j2 at pos2 ⊢
     generalize su (aM rg N (aU s2 [R2]) more) zM=s4
     cases ho4:s4.ov with
     | true=>rw [if_pos rfl];exact .over ho4
     | false=>rw [if_neg (by decide)];exact Ur ho4 pos2
   · rw [if_neg e]
     exact Ur ho (by omega)
theorem HQ {σ:St}{H:Hp}{u:V}{j:Nat}{k:Int}{Q:Bool→Hp→Prop} (hσ:σ[5]? = some (some u)) (h:(u=.non∧(j:Int)=k+1)∨∃ b:Nat,u=.int ((b:Nat) - 1:Int)∧j=b) (q:Q (decide ((j:Int)=k+1)) H):Zo (nW (Il (fun x y H Q=>y=.non∧Q (.bl (decide (x=.non))) H) (mV 5) (tC .non))) (nW (Il Ve (mV 5) (tC (.int k)))) σ H Q:=by
 refine⟨u,hσ,rfl,_,rfl,?_⟩
 rcases h with ⟨rfl,e⟩ | ⟨b,rfl,rfl⟩
 · rw [decide_eq_true e] at q
   exact bM q
 · refine aW ⟨_,hσ,rfl,_,rfl,?_⟩
   rw [deI]
   have e:decide (((j:Nat) - 1:Int)=k)=decide ((j:Int)=k+1):=by
     by_cases z:(j:Int)=k+1
     · rw [decide_eq_true z,decide_eq_true (by omega)]
     · rw [decide_eq_false z,decide_eq_false (by omega)]
   rw [e]
   exact q
def Tg:Sp:=fun vs H Q _=>∃ nl wl ml l xs ys rg N sp ws more R0 R1 R2 R3,vs=[.ref nl,.ref wl,.ref ml,.ref l]∧K8 H nl N∧H wl=some (.lst xs)∧Paired (sy H) xs ws∧(∀ v∈ws,Ke v.2)∧ws.length≤10∧H ml=some (.lst ys)∧Paired (sy H) ys more∧(∀ v∈more,Ke v.2)∧more.length≤10∧Bw H l sp∧QG sp∧(∀ i,sp i=rg (N i)) ∧
 R0.nm=N 0∧R1.nm=N 1∧R2.nm=N 2∧R3.nm=N 3∧∀ x H',aB H H'→Wx H' x (WQ rg N R0 R1 R2 R3 ws more)→Q x H'
section
variable {P:Program}{w:World}{K:W.Frag}{mg:Str→Option Value}{base:Heap}{A:cQ}
theorem El (T:Txt K mg A):bw P w K mg base b8 4 A.lM A.pA ["_law_names","_law_ways","_law_more","_law_spans_here"] Tg:=by
 have CG:=Kh (P:=P) (w:=w) (base:=base) T
 refine T.GK.ok cR (fun vs H Q E h=>?_) (fun cdv A0 outer s H vs Q E hr h=>?_)
 · obtain⟨nl,wl,ml,l,xs,ys,rg,N,sp,ws,more,R0,R1,R2,R3,rfl,_⟩:=h
   rfl
 obtain⟨nl,wl,ml,l,xs,ys,rg,N,sp,ws,more,R0,R1,R2,R3,rfl,hN,hwl,hW,hok,hlen,hml,hM,akN,hlen2,hS,hsp,he,r0,r1,r2,r3,q⟩:=h
 refine⟨_,(zC (zX (i:=4) cR.nd rfl ‹0› (yN (zA (yC (zA yB (zA (zW aV (pv 0) zG (fun _ _=>rfl)) (zA zG zD)))) (zA (yC (zA yB (zA (zW aV (pv 0) zG (fun _ _=>rfl)) (zA zG zD)))) zD))))
     (zC (Ig (zZ CG ‹hr› rfl T.Cr T.Cq T.Cp .nil zT (zA (pv 0) (zA yB (zA (pv 1) (zA (pv 3) zD))))) (uA rfl (yT (yL (i:=5) cR.nd rfl ‹0›) (yT (yL (i:=6) cR.nd rfl ‹0›) (yT (yL (i:=7) cR.nd rfl ‹0›) p8)))))
     (zC (yA (zO Kv (pv 6) yF (zQ _)) (zE (zN (yC (zA xM (zA (pv 4) (zA (pv 7) (zA (pv 6) zD))))))) zR)
     (zC (yA (PW.pt (qM (zO xG (pv 5) yF (zQ _)) (mj (zO yY (pv 5) zG (zQ _))))) (zC (yQ (vD PySem.F.plainAttrs_list PySem.F.slot_list_append PySem.F.type_list_append iw (pv 4) (zA (yC (zA yB (zA (zW aV (pv 0) zG (fun _ _=>rfl)) (zA zG zD)))) zD)))
     (zC (Ig (zZ CG ‹hr› rfl T.Cr T.Cq T.Cp .nil zT (zA (pv 0) (zA yB (zA (pv 2) (zA (pv 3) zD))))) (uA rfl (yT (yL (i:=5) cR.nd rfl ‹0›) (yT (yL (i:=6) cR.nd rfl ‹0›) (yT (yL (i:=8) cR.nd rfl ‹0›) p8)))))
     (zC (yA (zO Kv (pv 6) yF (zQ _)) (zE (zN (yC (zA xM (zA (pv 4) (zA (pv 7) (zA (pv 6) zD))))))) zR)
     (zE (zX (i:=7) cR.nd rfl ‹0› (zV Dc (pv 7) (pv 8))))))) zR)
     (zC (yA (PW.pt (qM (zO xG (pv 5) yF (zQ _)) (mj (zO yY (pv 5) zG (zQ _))))) (zE (yQ (vD PySem.F.plainAttrs_list PySem.F.slot_list_append PySem.F.type_list_append iw (pv 4) (zA (yC (zA yB (zA (zW aV (pv 0) zG (fun _ _=>rfl)) (zA zG zD)))) zD)))) zR)
     (zE (zN (yC (zA xM (zA (zV Dc (pv 4) (yN (zA (yC (zA yB zD)) zD))) (zA (pv 7) (zA yF zD)))))))))))),?_⟩
 have i0:jc [V.str (N 0),.str (N 1),.str (N 2),.str (N 3)] ((0:Nat):Int)=some (.str (N 0)):=zP rfl
 have i1:jc [V.str (N 0),.str (N 1),.str (N 2),.str (N 3)] ((1:Nat):Int)=some (.str (N 1)):=zP rfl
 have i2:jc [V.str (N 0),.str (N 1),.str (N 2),.str (N 3)] ((2:Nat):Int)=some (.str (N 2)):=zP rfl
 have i3:jc [V.str (N 0),.str (N 1),.str (N 2),.str (N 3)] ((3:Nat):Int)=some (.str (N 3)):=zP rfl
 refine⟨_,rfl,nl,_,_,_,rfl,rfl,b7.of hN,i0,(by show 3≤sizeLine;decide),fun t0 ht0=>?_⟩
 have s1:=zF ht0 (.tup [.str ‹"ask"›,.str (N 0),.int 0])
 refine⟨_,rfl,nl,_,_,_,rfl,rfl,b7.of (s1 _ _ hN),i1,(by show 3≤sizeLine;decide),fun t1 ht1=>?_⟩
 have s2:=zF ht1 (.tup [.str ‹"ask"›,.str (N 1),.int 0])
 refine⟨(by show 2≤sizeLine;decide),fun lg Yy=>?_⟩
 have s3:=zF Yy (.lst [.ref t0,.ref t1])
 have Es:H lg=none:=yM (s1.trans s2) Yy
 have f3:aB H (upd (upd (upd H t0 (.tup [.str ‹"ask"›,.str (N 0),.int 0])) t1 (.tup [.str ‹"ask"›,.str (N 1),.int 0])) lg (.lst [.ref t0,.ref t1])):=(s1.trans s2).trans s3
 have l3:(upd (upd (upd H t0 (.tup [.str ‹"ask"›,.str (N 0),.int 0])) t1 (.tup [.str ‹"ask"›,.str (N 1),.int 0])) lg (.lst [.ref t0,.ref t1])) lg=some (.lst [.ref t0,.ref t1]):=zB
 have P3:Paired (nT (upd (upd (upd H t0 (.tup [.str ‹"ask"›,.str (N 0),.int 0])) t1 (.tup [.str ‹"ask"›,.str (N 1),.int 0])) lg (.lst [.ref t0,.ref t1]))) [.ref t0,.ref t1] [jM (N 0),jM (N 1)]:=.cons ⟨t0,rfl,s3 _ _ (s2 _ _ zB)⟩ (.cons ⟨t1,rfl,s3 _ _ zB⟩ .nil)
 generalize upd (upd (upd H t0 (.tup [.str ‹"ask"›,.str (N 0),.int 0])) t1 (.tup [.str ‹"ask"›,.str (N 1),.int 0])) lg (HO.lst [.ref t0,.ref t1])=H3 at f3 l3 P3 ⊢
 have hr0:aU vo [R0,R1]=⟨[R0.nm,R1.nm],[jM (N 0),jM (N 1)],[],false,none⟩:=by rw [uw,← r0,← r1];rfl
 refine⟨_,rfl,_,rfl,_,rfl,?_⟩
 refine⟨nl,zS,wl,xs,l,rg,N,sp,ws,aU vo [R0,R1],rfl,f3 _ _ hN,f3 _ _ hwl,zJ hW fun _ _=>sy.kq (.of f3),hok,hlen,hS.kq (.of f3),hsp,he,by rw [hr0],by rw [hr0],fun x H4 s4 hL=>?_⟩
 have hct:=La (rg:=rg) (N:=N) (s:=aU vo [R0,R1]) (by rw [hr0]) (by rw [hr0]) ws
 have QJ:=vm rg N (aU vo [R0,R1]) ws
 have eL:(aM rg N (aU vo [R0,R1]) ws).1.L=[jM (N 0),jM (N 1)]:=by rw [QJ.2.1,hr0]
 have eD:(aM rg N (aU vo [R0,R1]) ws).1.D=[]:=by rw [QJ.2.2,hr0]
 unfold WQ at q
 generalize aM rg N (aU vo [R0,R1]) ws=p1 at hL hct eL eD q
 obtain⟨g1,h1⟩:=p1
 dsimp only at hct eL eD
 obtain⟨a,u,c,d,rfl,nd,ha,hc,hu,hd⟩:=hL
 have nld:lg≠d:=zH l3 nd
 dsimp only at hc hu hd
 have f4:aB H H4:=f3.trans s4
 have l4:=s4 _ _ l3
 have P4:=zJ P3 fun _ _=>nT.kq (.of s4)
 refine⟨a,_,rfl,ik.of ha,rfl,_,_,rfl,_,_,rfl,_,_,rfl,rfl,?_⟩
 dsimp only [dH,List.set_cons_succ,List.set_cons_zero]
 cases hcs:g1.ct with
 | some k =>
   rw [hcs] at hc hd hct
   have hct:g1.ov=true:=hct
   obtain⟨ca,rfl,hca⟩:=(show nT H4 c _ from hc)
   rw [if_neg (fun z=>by cases z.1)] at hd
   refine⟨_,rfl,rfl,_,rfl,bM ?_⟩
   refine⟨_,rfl,_,rfl,_,rfl,(by show 4≤sizeLine;decide),fun p hp=>?_⟩
   have s5:=zF hp (.tup [.bl false,.ref lg,.ref d,.ref ca])
   have e2:su (g1,h1) zS=g1:=if_neg (fun z=>by rw [show (g1,h1).1.ov=true from hct] at z;cases z.2)
   rw [e2,if_pos hct] at q
   refine q (.ref p) _ (f4.trans s5) ⟨p,lg,d,_,.ref ca,rfl,?_,s5 _ _ l4,?_,?_,?_⟩
   · rw [hcs];exact zB
   · rw [eL];exact zJ P4 fun _ _=>nT.kq (.of s5)
   · rw [eD];exact s5 _ _ hd
   · rw [hcs];exact⟨ca,rfl,s5 _ _ hca⟩
 | none =>
   rw [hcs] at hc hct hu hd
   have hct:g1.ov=false:=hct
   have hc:c=.non:=hc
   subst hc
   have hu:=hu rfl
   subst hu
   have e2:su (g1,h1) zS=⟨g1.l,g1.L,g1.D++(if 1<h1.length then [zS] else []),false,none⟩:=by
     unfold su
     by_cases e:1<h1.length
     · rw [if_pos ⟨e,hct⟩,if_pos e,hct,hcs]
     · rw [if_neg (fun z=>e z.1),if_neg e,List.append_nil]
       show g1=_
       cases g1
       dsimp only at hct hcs
       rw [hct,hcs]
   have hd:H4 d=some (.lst ((g1.D++(if 1<h1.length then [zS] else [])).map V.str)):=by
     rw [hd,eD]
     by_cases e:1<h1.length
     · rw [if_pos ⟨rfl,e⟩,if_pos e];rfl
     · rw [if_neg (fun z=>e z.2),if_neg e];rfl
   rw [e2,if_neg (show ¬ (false=true) by decide)] at q
   have hD2:(g1.D++(if 1<h1.length then [zS] else [])).length≤1:=by
     rw [eD]
     split <;> decide
   generalize g1.D++(if 1<h1.length then [zS] else [])=D2 at q hd hD2
   refine⟨_,rfl,rfl,_,rfl,aW ?_⟩
   dsimp only [EY]
   refine uq (fun σ H5=>∃ (j:Nat) (s':Gs) (u c:V) (d':Addr) (ts:List V) (o':Option V),σ=[some (.ref nl),some (.ref wl),some (.ref ml),some (.ref l),some (.ref lg),some u,some c,some (.ref d'),o']∧aB H H5∧H5 lg=some (.lst ts)∧Paired (nT H5) ts s'.L∧ts.length≤3∧lg≠d'∧H5 d'=some (.lst (s'.D.map V.str))∧s'.ct=none∧((u=.non∧(j:Int)=1+1)∨∃ b:Nat,u=.int ((b:Nat) - 1:Int)∧j=b)∧∀ x H',aB H H'→Wx H' x (ux j s' R3)→Q x H') ?_ ?_
   · rintro σ H5 ⟨j,s',u,c,d',ts,o',rfl,f5,l5,P5,hts,nl',Yz,aaZ,hju,k⟩
     refine uq (fun σ H6=>∃ (L6:List (List V)) (Nh:List V) (z6:List Str),σ=[some (.ref nl),some (.ref wl),some (.ref ml),some (.ref l),some (.ref lg),some u,some c,some (.ref d'),o']∧aB H H6∧H6 lg=some (.lst Nh)∧Paired (nT H6) Nh L6∧Nh.length≤4∧H6 d'=some (.lst (s'.D.map V.str))∧ux j s' R3=⟨z6,L6++[Bu],s'.D,true,none⟩) ?_ ?_
     · rintro σ H6 ⟨L6,Nh,z6,rfl,f6,l6,P6,ht6,hd6,ef⟩
       refine⟨_,rfl,(by show 1≤sizeLine;decide),fun te hte=>?_⟩
       have t1:=zF hte (.tup [.str ‹"end"›])
       refine⟨(by show 1≤sizeLine;decide),fun nb hnb=>?_⟩
       have t2:=zF hnb (.lst [.ref te])
       refine⟨lg,nb,_,_,rfl,rfl,t2 _ _ (t1 _ _ l6),zB,yJ (m:=1000) (by show Nh.length+1≤1000;omega),fun cp hcp=>?_⟩
       have t3:=zF hcp (.lst (Nh++[.ref te]))
       refine⟨_,rfl,(by show 4≤sizeLine;decide),fun p hp=>?_⟩
       have t4:=zF hp (.tup [.bl true,.ref cp,.ref d',.non])
       have t34:=t3.trans t4
       have t14:=(t1.trans t2).trans t34
       rw [ef] at k
       refine k (.ref p) _ (f6.trans t14) ⟨p,cp,d',_,.non,rfl,zB,t4 _ _ zB,yW (zJ P6 fun _ _=>nT.kq (.of t14)) (.cons ⟨te,rfl,t34 _ _ (t2 _ _ zB)⟩ .nil),t14 _ _ hd6,rfl⟩
     · intro M hM'
       have ask:∀ (M:St→Hp→Prop),(∀ H6,j=2→(∃ (L6:List (List V)) (Nh:List V) (z6:List Str),aB H H6∧H6 lg=some (.lst Nh)∧Paired (nT H6) Nh L6∧Nh.length≤4∧H6 d'=some (.lst (s'.D.map V.str))∧ux j s' R3=⟨z6,L6++[Bu],s'.D,true,none⟩)→M [some (.ref nl),some (.ref wl),some (.ref ml),some (.ref l),some (.ref lg),some u,some c,some (.ref d'),o'] H6)→j=2→∀ t3,H5 t3=none→M [some (.ref nl),some (.ref wl),some (.ref ml),some (.ref l),some (.ref lg),some u,some c,some (.ref d'),o'] (upd (upd H5 t3 (.tup [.str ‹"ask"›,.str (N 3),.int 0])) lg (.lst (ts++[.ref t3]))):=fun M kk ej t3 ht3=>by
         have u1:=zF ht3 (.tup [.str ‹"ask"›,.str (N 3),.int 0])
         refine kk _ ej ⟨s'.L++[jM (N 3)],ts++[.ref t3],s'.l++[R3.nm],lA (f5.trans u1) Es _,zB,?_,by rw [List.length_append];show ts.length+1≤4;omega,by rw [zI (Ne.symm nl')];exact u1 _ _ Yz,?_⟩
         · refine yW (vh (u1 _ _ l5) (fun _ z=>by cases z) (zJ P5 fun _ _=>nT.kq (.of u1))) (.cons ⟨t3,rfl,?_⟩ .nil)
           rw [zI (Ne.symm (zH l5 ht3))];exact zB
         · unfold ux
           rw [if_pos ej,aaZ,← r3]
       refine HQ rfl hju ?_
       refine mW (fun e=>?_) (fun e=>?_)
       · have e:=of_decide_eq_true e
         have ej:j=2:=by omega
         refine⟨_,rfl,.inl ⟨rfl,_,b7.of l5⟩,_,rfl,nl,_,_,_,rfl,rfl,b7.of (f5 _ _ hN),i3,(by show 3≤sizeLine;decide),fun t3 ht3=>?_⟩
         have u1:=zF ht3 (.tup [.str ‹"ask"›,.str (N 3),.int 0])
         refine⟨lg,_,_,rfl,rfl,u1 _ _ l5,yJ (m:=1000) (by omega),?_⟩
         refine ask M (fun H6 _ z=>?_) ej t3 ht3
         obtain⟨L6,Nh,z6,z⟩:=z
         exact hM' _ _ ⟨L6,Nh,z6,rfl,z⟩
       · have ej:¬ j=2:=fun z=>e (decide_eq_true (by omega))
         refine hM' _ _ ⟨s'.L,ts,s'.l,rfl,f5,l5,P5,by omega,Yz,?_⟩
         unfold ux
         rw [if_neg ej,aaZ]
   · intro M hM'
     have hj0:(hdV h1=.non∧((Bv h1 0:Nat):Int)=0+1)∨∃ b:Nat,hdV h1=.int ((b:Nat) - 1:Int)∧Bv h1 0=b:=by
       cases h1 with
       | nil=>exact .inl ⟨rfl,rfl⟩
       | cons a r=>exact .inr ⟨a,rfl,rfl⟩
     refine HQ rfl hj0 ?_
     refine mW (fun e=>?_) (fun e=>?_)
     · have e:=of_decide_eq_true e
       have ej:Bv h1 0=1:=by omega
       rw [if_pos ej] at q
       refine⟨_,rfl,.inl ⟨rfl,_,b7.of l4⟩,_,rfl,nl,_,_,_,rfl,rfl,b7.of (f4 _ _ hN),i2,(by show 3≤sizeLine;decide),fun t2 Er=>?_⟩
       have u1:=zF Er (.tup [.str ‹"ask"›,.str (N 2),.int 0])
       refine⟨lg,_,_,rfl,rfl,u1 _ _ l4,yJ (m:=1000) (by show 2+1≤1000;decide),?_⟩
       have f5:aB H (upd (upd H4 t2 (.tup [.str ‹"ask"›,.str (N 2),.int 0])) lg (.lst ([.ref t0,.ref t1]++[.ref t2]))):=lA (f4.trans u1) Es _
       have l5:(upd (upd H4 t2 (.tup [.str ‹"ask"›,.str (N 2),.int 0])) lg (.lst ([.ref t0,.ref t1]++[.ref t2]))) lg=some (.lst ([.ref t0,.ref t1]++[.ref t2])):=zB
       have P5:Paired (nT (upd (upd H4 t2 (.tup [.str ‹"ask"›,.str (N 2),.int 0])) lg (.lst ([.ref t0,.ref t1]++[.ref t2])))) ([.ref t0,.ref t1]++[.ref t2]) ([jM (N 0),jM (N 1)]++[jM (N 2)]):=by
         refine yW (vh (u1 _ _ l4) (fun _ z=>by cases z) (zJ P4 fun _ _=>nT.kq (.of u1))) (.cons ⟨t2,rfl,?_⟩ .nil)
         rw [zI (Ne.symm (zH l4 Er))];exact zB
       have d5:(upd (upd H4 t2 (.tup [.str ‹"ask"›,.str (N 2),.int 0])) lg (.lst ([.ref t0,.ref t1]++[.ref t2]))) d=some (.lst (D2.map V.str)):=by rw [zI (Ne.symm nld)];exact u1 _ _ hd
       generalize upd (upd H4 t2 (.tup [.str ‹"ask"›,.str (N 2),.int 0])) lg (HO.lst ([.ref t0,.ref t1]++[.ref t2]))=H5 at f5 l5 P5 d5 ⊢
       unfold goM at q
       have hr2:aU ⟨g1.l,g1.L,D2,false,none⟩ [R2]=⟨g1.l++[R2.nm],[jM (N 0),jM (N 1)]++[jM (N 2)],D2,false,none⟩:=by rw [uw,← r2];dsimp only;rw [eL];rfl
       refine⟨_,rfl,_,rfl,_,rfl,?_⟩
       refine⟨nl,zM,ml,ys,l,rg,N,sp,more,aU ⟨g1.l,g1.L,D2,false,none⟩ [R2],rfl,f5 _ _ hN,f5 _ _ hml,zJ hM fun _ _=>sy.kq (.of f5),akN,hlen2,hS.kq (.of f5),hsp,he,by rw [hr2],by rw [hr2],fun x H6 s6 hL=>?_⟩
       have hct:=La (rg:=rg) (N:=N) (s:=aU ⟨g1.l,g1.L,D2,false,none⟩ [R2]) (by rw [hr2]) (by rw [hr2]) more
       have QJ:=vm rg N (aU ⟨g1.l,g1.L,D2,false,none⟩ [R2]) more
       have eL:(aM rg N (aU ⟨g1.l,g1.L,D2,false,none⟩ [R2]) more).1.L=[jM (N 0),jM (N 1)]++[jM (N 2)]:=by rw [QJ.2.1,hr2]
       have eD:(aM rg N (aU ⟨g1.l,g1.L,D2,false,none⟩ [R2]) more).1.D=D2:=by rw [QJ.2.2,hr2]
       generalize aM rg N (aU ⟨g1.l,g1.L,D2,false,none⟩ [R2]) more=p2 at hL hct eL eD q
       obtain⟨g2,h2⟩:=p2
       dsimp only at hct eL eD
       obtain⟨a,u,c,d2,rfl,nd2,ha,hc,hu,hd2⟩:=hL
       dsimp only at hc hu hd2
       have f6:aB H H6:=f5.trans s6
       have l6:=s6 _ _ l5
       have P6:=zJ P5 fun _ _=>nT.kq (.of s6)
       have d6:=s6 _ _ d5
       refine⟨a,_,rfl,ik.of ha,rfl,_,_,rfl,_,_,rfl,_,_,rfl,rfl,?_⟩
       dsimp only [dH,List.set_cons_succ,List.set_cons_zero]
       cases hcs:g2.ct with
       | some k =>
         rw [hcs] at hc hct
         have hct:g2.ov=true:=hct
         obtain⟨ca,rfl,hca⟩:=(show nT H6 c _ from hc)
         refine⟨_,rfl,rfl,_,rfl,bM ?_⟩
         refine⟨_,rfl,_,rfl,_,rfl,(by show 4≤sizeLine;decide),fun p hp=>?_⟩
         have s7:=zF hp (.tup [.bl false,.ref lg,.ref d,.ref ca])
         have e2:su (g2,h2) zM=g2:=if_neg (fun z=>by rw [show (g2,h2).1.ov=true from hct] at z;cases z.2)
         rw [e2,if_pos hct] at q
         refine q (.ref p) _ (f6.trans s7) ⟨p,lg,d,_,.ref ca,rfl,?_,s7 _ _ l6,?_,?_,?_⟩
         · rw [hcs];exact zB
         · rw [eL];exact zJ P6 fun _ _=>nT.kq (.of s7)
         · rw [eD];exact s7 _ _ d6
         · rw [hcs];exact⟨ca,rfl,s7 _ _ hca⟩
       | none =>
         rw [hcs] at hc hct hu hd2
         have hct:g2.ov=false:=hct
         have hc:c=.non:=hc
         subst hc
         have hu:=hu rfl
         subst hu
         have e2:su (g2,h2) zM=⟨g2.l,g2.L,D2++(if 1<h2.length then [zM] else []),false,none⟩:=by
           unfold su
           by_cases e:1<h2.length
           · rw [if_pos ⟨e,hct⟩,if_pos e,hct,hcs,eD]
           · rw [if_neg (fun z=>e z.1),if_neg e,List.append_nil]
             show g2=_
             cases g2
             dsimp only at hct hcs eD
             rw [hct,hcs,eD]
         have hd2:H6 d2=some (.lst ((if 1<h2.length then [zM] else []).map V.str)):=by
           rw [hd2]
           by_cases e:1<h2.length
           · rw [if_pos ⟨rfl,e⟩,if_pos e];rfl
           · rw [if_neg (fun z=>e z.2),if_neg e];rfl
         rw [e2,if_neg (show ¬ (false=true) by decide)] at q
         refine⟨_,rfl,rfl,_,rfl,aW ?_⟩
         refine⟨_,rfl,_,rfl,d,d2,_,_,rfl,rfl,d6,hd2,yJ (m:=1000) ?_,fun cp hcp=>?_⟩
         · rw [List.length_map,List.length_map]
           have:D2.length≤1:=hD2
           split <;> simp <;> omega
         have s7:=zF hcp (.lst (D2.map V.str++(if 1<h2.length then [zM] else []).map V.str))
         refine hM' _ _ ⟨Bv h2 1,⟨g2.l,g2.L,D2++(if 1<h2.length then [zM] else []),false,none⟩,_,_,cp,_,_,rfl,f6.trans s7,s7 _ _ l6,?_,(by show 3≤3;decide),zH l6 hcp,?_,rfl,?_,q⟩
         · show Paired _ _ g2.L
           rw [eL];exact zJ P6 fun _ _=>nT.kq (.of s7)
         · rw [zB,List.map_append]
         · cases h2 with
           | nil=>exact .inl ⟨rfl,rfl⟩
           | cons a r=>exact .inr ⟨a,rfl,rfl⟩
     · have ej:¬ Bv h1 0=1:=fun z=>e (decide_eq_true (by omega))
       rw [if_neg ej] at q
       refine hM' _ _ ⟨Bv h1 0,⟨g1.l,g1.L,D2,false,none⟩,_,_,d,_,_,rfl,f4,l4,?_,(by show 2≤3;decide),nld,hd,rfl,?_,q⟩
       · show Paired _ _ g1.L
         rw [eL];exact P4
       · cases h1 with
         | nil=>exact absurd rfl ej
         | cons a r=>exact .inr ⟨a,rfl,rfl⟩
end
def Th (K:W.Frag):Sp:=fun vs H Q _=>∃ (a:Addr) (ns:List Int),vs=[.ref a]∧b7 K H a (ns.map V.int)∧∀ l H' sp,aB H H'→Bw H' l sp→QG sp→Q (.ref l) H'
def WT (v:Wy):Prop:=1≤v.1∧v.1≤3∧Ke v.2
def aa1:Sp:=fun vs H Q _=>∃ (c:Int) (l:Addr) (sp:Nat→Qn),vs=[.int c,.ref l]∧Bw H l sp∧∀ x H' v,aB H H'→sy H' x v→WT v→Q x H'
def QK (A:cQ):Sp:=fun vs H Q _=>∃ nl N x sg,vs=[.ref nl,x]∧K8 H nl N∧Yx H x sg∧∀ y H',aB H H'→Wa A N H' y sg→Q y H'
theorem aa2 {m:Int} (h0:0≤m) (h1:m<2):m=Uh (decide (m=1)):=by
 by_cases e:m=1
 · rw [decide_eq_true e];exact e
 · rw [decide_eq_false e];show m=0;omega
theorem or_int {i:Nat}{σ:St}{H:Hp}{k a b:Int}{Q:Bool→Hp→Prop} (hσ:σ[i]? = some (some (.int k))) (q:Q (decide (k=a) || decide (k=b)) H):Zo (nW (Il Ve (mV i) (tC (.int a)))) (nW (Il Ve (mV i) (tC (.int b)))) σ H Q:=by
 refine⟨_,hσ,rfl,_,rfl,?_⟩
 rw [deI]
 by_cases e:k=a
 · rw [decide_eq_true e] at q ⊢
   exact bM q
 · rw [decide_eq_false e,Bool.false_or] at q
   rw [decide_eq_false e]
   refine aW ⟨_,hσ,rfl,_,rfl,?_⟩
   rw [deI]
   exact q
theorem Em {l:List Int}{i:Int} (h0:0≤i) (h1:i<l.length):∃ m,jc (l.map V.int) i=some (.int m)∧m∈l:=by
 obtain⟨v,hv,hv2⟩:=wU (l:=l.map V.int) (i:=i) h0 (by rw [List.length_map];exact h1)
 obtain⟨m,hm,rfl⟩:=sV hv2
 exact⟨m,hv,List.mem_of_getElem? hm⟩
theorem Ti {l:List Str}{i:Int} (h0:0≤i) (h1:i<l.length):∃ m,jc (l.map V.str) i=some (.str m)∧m∈l:=by
 obtain⟨v,hv,hv2⟩:=wU (l:=l.map V.str) (i:=i) h0 (by rw [List.length_map];exact h1)
 obtain⟨m,hm,rfl⟩:=sV hv2
 exact⟨m,hv,List.mem_of_getElem? hm⟩
section
variable {P:Program}{w:World}{K:W.Frag}{mg:Str→Option Value}{base:Heap}{A:cQ}
theorem Kl (T:Txt K mg A):bw P w K mg base b8 1 A.qj A.uL ["_law_cell_here","_law_spans_here"] aa1:=by
 refine T.Mx.ok iV (fun vs H Q E h=>?_) (fun cdv A0 outer s H vs Q E hr h=>?_)
 · obtain⟨c,l,sp,rfl,_⟩:=h
   rfl
 obtain⟨c,l,sp,rfl,hS,q⟩:=h
 refine⟨_,(zC (zX (i:=2) iV.nd rfl ‹0› (zV xD (pv 0) zG))
     (zC (zX (i:=3) iV.nd rfl ‹0› (zV xD (zV xO (pv 0) zG) zG))
     (zC (yA (zO yY (pv 3) zG (zQ _)) (zE (zN (yC (zA (pv 2) (zA yF zD))))) zR)
     (zC (yA (PW.pt (qM (zO yY (pv 3) zG (zQ _)) (mj (zO yY (pv 3) zG (zQ _))))) (zE (zN (yC (zA (pv 2) (zA (yC (zA zG (zA yB (zA (zV xD (zV xO (pv 0) zG) zG) (zA (xJ yY (zV xD (zV xO (pv 0) zG) zG) zG (zQ _)) zD))))) zD))))) zR)
     (zC (Ig (zW aV (pv 1) zG (fun _ _=>rfl)) (uA rfl (yT (yL (i:=4) iV.nd rfl ‹0›) (yT (yL (i:=5) iV.nd rfl ‹0›) p8))))
     (zC (zX (i:=6) iV.nd rfl ‹0› (zW aV (yN (zA (zV uB (pv 4) zG) (zA (pv 4) (zA (zV mz (pv 4) zG) (zA (zV xO (zV mz (pv 4) (pv 5)) zG) (zA (pv 5) (zA (zV mz (pv 5) zG) zD))))))) (zV xD (zV xO (pv 0) zG) zG) (fun _ _=>rfl)))
     (zE (zN (yC (zA (pv 2) (zA (yC (zA zG (zA (zW aV (yN (zA yB (zA yB (zA yB zD)))) (zV xD (zV xO (pv 0) zG) zG) (fun _ _=>rfl)) (zA (pv 6) (zA (xJ yY (zV xD (zV xO (pv 0) zG) zG) zG (zQ _)) zD))))) zD))))))))))),?_⟩
 have a0:=Int.emod_nonneg c (b:=3) (by decide)
 have a1:=Int.emod_lt_of_pos c (b:=3) (by decide)
 refine⟨_,rfl,_,_,rfl,rfl,(by show (0:Int)<3;decide),?_⟩
 refine⟨_,rfl,_,_,rfl,rfl,⟨by decide,by decide⟩,_,_,rfl,rfl,(by show (0:Int)<6;decide),?_⟩
 have ea:c % 3=(((c % 3).toNat+1:Nat):Int) - 1:=by omega
 have b:1≤(c % 3).toNat+1∧(c % 3).toNat+1≤3:=by omega
 generalize (c % 3).toNat+1=n at ea b
 refine⟨_,rfl,rfl,_,rfl,mW (fun d=>?_) (fun d=>?_)⟩
 · refine⟨_,rfl,(by show 2≤sizeLine;decide),fun p hp=>?_⟩
   refine q _ _ (n,none) (zF hp _) ⟨p,.non,rfl,?_,rfl⟩ ⟨b.1,b.2,trivial⟩
   show _=some (HO.tup [V.int ((n:Nat) - 1:Int),V.non])
   rw [← ea];exact zB
 dsimp only [EY]
 refine or_int rfl ?_
 refine mW (fun d=>?_) (fun d=>?_)
 · have m0:=Int.emod_nonneg (c / 18) (b:=2) (by decide)
   have m1:=Int.emod_lt_of_pos (c / 18) (b:=2) (by decide)
   refine⟨_,rfl,_,rfl,_,_,rfl,rfl,⟨by decide,by decide⟩,_,_,rfl,rfl,(by show (0:Int)<2;decide),_,rfl,_,_,rfl,rfl,⟨by decide,by decide⟩,_,_,rfl,rfl,(by show (0:Int)<2;decide),rfl,(by show 4≤sizeLine;decide),fun p1 hp1=>?_⟩
   have s1:=zF hp1 (.tup [.int 1,.str ‹"="›,.int (c / 18 % 2),.bl (decide (V.int (c / 36 % 2)=V.int 1))])
   refine⟨(by show 2≤sizeLine;decide),fun p hp=>?_⟩
   have s2:=zF hp (.tup [.int (c % 3),.ref p1])
   refine q _ _ (n,some (.is (decide (c / 18 % 2=1)),decide (V.int (c / 36 % 2)=V.int 1))) (s1.trans s2) ⟨p,.ref p1,rfl,?_,⟨p1,rfl,?_⟩⟩ ⟨b.1,b.2,.inr (.inl rfl)⟩
   · show _=some (HO.tup [V.int ((n:Nat) - 1:Int),V.ref p1])
     rw [← ea];exact zB
   · show _=some (HO.tup [V.int 1,V.str ‹"="›,V.int (Uh (decide (c / 18 % 2=1))),V.bl (decide (V.int (c / 36 % 2)=V.int 1))])
     rw [← aa2 m0 m1];exact s2 _ _ zB
 obtain⟨t0,t1,h1,h2,h3⟩:=hS.ex
 have j0:jc [V.ref t0,V.ref t1] ((0:Nat):Int)=some (.ref t0):=zP rfl
 refine⟨_,rfl,l,_,_,_,rfl,rfl,b7.of h1,j0,t0,_,rfl,ik.of h2,rfl,_,_,rfl,_,_,rfl,rfl,?_⟩
 dsimp only [dH,List.set_cons_succ,List.set_cons_zero]
 generalize (sp 0).1=lo
 generalize (sp 0).2=hi
 have k0:=Int.emod_nonneg (c / 54) (b:=6) (by decide)
 have k1:=Int.emod_lt_of_pos (c / 54) (b:=6) (by decide)
 obtain⟨m,hm,_⟩:=Em (l:=[lo - 1,lo,lo+1,(lo+hi) / 2,hi,hi+1]) (i:=c / 54 % 6) k0 k1
 refine⟨_,rfl,_,_,rfl,rfl,_,rfl,_,rfl,_,_,rfl,rfl,_,rfl,_,rfl,_,_,rfl,rfl,_,_,rfl,rfl,⟨by decide,by decide⟩,_,rfl,_,rfl,_,_,rfl,rfl,(by show 6≤sizeLine;decide),fun p6 hp6=>?_⟩
 have s1:=zF hp6 (.lst [.int (lo - 1),.int lo,.int (lo+1),.int ((lo+hi) / 2),.int hi,.int (hi+1)])
 refine⟨_,rfl,_,_,rfl,rfl,⟨by decide,by decide⟩,_,_,rfl,rfl,(by show (0:Int)<6;decide),p6,_,_,_,rfl,rfl,b7.of zB,hm,?_⟩
 have n0:=Int.emod_nonneg (c / 18) (b:=3) (by decide)
 have n1:=Int.emod_lt_of_pos (c / 18) (b:=3) (by decide)
 obtain⟨hw,hhw,hmem⟩:=Ti (l:=[‹"<"›,‹"="›,‹">"›]) (i:=c / 18 % 3) n0 n1
 refine⟨_,rfl,(by show 3≤sizeLine;decide),fun ps hps=>?_⟩
 have s2:=zF hps (.lst [.str ‹"<"›,.str ‹"="›,.str ‹">"›])
 refine⟨_,rfl,_,_,rfl,rfl,⟨by decide,by decide⟩,_,_,rfl,rfl,(by show (0:Int)<3;decide),ps,_,_,_,rfl,rfl,b7.of zB,hhw,?_⟩
 refine⟨_,rfl,_,rfl,_,_,rfl,rfl,⟨by decide,by decide⟩,_,_,rfl,rfl,(by show (0:Int)<2;decide),rfl,(by show 4≤sizeLine;decide),fun p1 hp1=>?_⟩
 have s3:=zF hp1 (.tup [.int 0,.str hw,.int m,.bl (decide (V.int (c / 324 % 2)=V.int 1))])
 refine⟨(by show 2≤sizeLine;decide),fun p hp=>?_⟩
 have s4:=zF hp (.tup [.int (c % 3),.ref p1])
 refine q _ _ (n,some (.cmp hw m,decide (V.int (c / 324 % 2)=V.int 1))) (((s1.trans s2).trans s3).trans s4) ⟨p,.ref p1,rfl,?_,⟨p1,rfl,s4 _ _ zB⟩⟩ ⟨b.1,b.2,?_⟩
 · show _=some (HO.tup [V.int ((n:Nat) - 1:Int),V.ref p1])
   rw [← ea];exact zB
 · show hw=‹"<"›∨hw=‹"="›∨hw=‹">"›
   simpa using hmem
end
def kk (c:Int):Int:=c*48271 % (2*(10:Int) ^ (18:Int).toNat) - (10:Int) ^ (18:Int).toNat
section
variable {P:Program}{w:World}{K:W.Frag}{mg:Str→Option Value}{base:Heap}{A:cQ}
theorem En (T:Txt K mg A):bw P w K mg base b8 2 A.lK A.ph ["_law_script"] (Th K):=by
 have dM:=pR (P:=P) (w:=w) (base:=base) T
 refine T.Gw.ok jL (fun vs H Q E h=>?_) (fun cdv A0 outer s H vs Q E hr h=>?_)
 · obtain⟨a,ns,rfl,_⟩:=h
   rfl
 obtain⟨a,ns,rfl,hA,q⟩:=h
 refine⟨_,(zC (zX (i:=1) jL.nd rfl ‹0› (zZ dM ‹hr› rfl T.gG T.gD T.gC .nil zT (zA (pv 0) (zA zG zD))))
     (zC (zX (i:=2) jL.nd rfl ‹0› (zW aV (yN (zA zG (zA (zV uB (zV xD (zV Df (pv 1) zG) (zV Df zG (zV CT zG zG))) (zV CT zG zG)) zD))) (zV xD (pv 1) zG) (fun _ _=>rfl)))
     (zC (zX (i:=3) jL.nd rfl ‹0› (zW aV (yN (zA (yC (zA zG (zA zG zD))) (zA (yC (zA zG (zA zG zD))) (zA (yC (zA zG (zA zG zD))) zD)))) (zV xD (zZ dM ‹hr› rfl T.gG T.gD T.gC .nil zT (zA (pv 0) (zA zG zD))) zG) (fun _ _=>rfl)))
     (zE (zN (yN (zA (yC (zA (pv 2) (zA (zV mz (pv 2) (zW aV (yN (zA zG (zA zG (zA zG (zA (zV CT zG zG) zD))))) (zV xD (zV xO (pv 1) zG) zG) (fun _ _=>rfl))) zD))) (zA (pv 3) zD)))))))),?_⟩
 refine⟨_,rfl,a,ns,1,rfl,hA,?_⟩
 have hc:=K5 ns 1
 generalize eY ns 1=c at hc ⊢
 have hc2:c<10000000000000000000000000000000000000000:=hc.2
 have hc1:=hc.1
 have p18:(10:Int) ^ (18:Int).toNat=1000000000000000000:=by symm
 have e0:=Int.emod_nonneg c (b:=2) (by decide)
 have e1:=Int.emod_lt_of_pos c (b:=2) (by decide)
 refine⟨_,rfl,_,_,rfl,rfl,⟨ibc (by omega),ibc (by decide)⟩,_,_,rfl,rfl,⟨by decide,by decide,by symm⟩,_,_,rfl,rfl,⟨ibc (by decide),ibc (by rw [p18];decide)⟩,_,_,rfl,rfl,(by show (0:Int)<2*(10:Int) ^ (18:Int).toNat;rw [p18];decide),_,_,rfl,rfl,⟨by decide,by decide,by symm⟩,_,_,rfl,rfl,(by show 2≤sizeLine;decide),fun p2 hp2=>?_⟩
 have s1:=zF hp2 (.lst [.int 0,.int (kk c)])
 obtain⟨lo,hlo,_⟩:=Em (l:=[0,kk c]) (i:=c % 2) e0 e1
 refine⟨_,rfl,_,_,rfl,rfl,(by show (0:Int)<2;decide),p2,_,_,_,rfl,rfl,b7.of zB,hlo,?_⟩
 refine⟨(by show 2≤sizeLine;decide),fun t0 ht0=>?_⟩
 have s2:=zF ht0 (.tup [.int 0,.int 0])
 refine⟨(by show 2≤sizeLine;decide),fun t1 ht1=>?_⟩
 have s3:=zF ht1 (.tup [.int 1,.int 1])
 refine⟨(by show 2≤sizeLine;decide),fun t2 Er=>?_⟩
 have s4:=zF Er (.tup [.int 0,.int 1])
 refine⟨(by show 3≤sizeLine;decide),fun fl hfl=>?_⟩
 have s5:=zF hfl (.lst [.ref t0,.ref t1,.ref t2])
 have S5:=(((s1.trans s2).trans s3).trans s4).trans s5
 have l5:(upd (upd (upd (upd (upd H p2 (.lst [.int 0,.int (kk c)])) t0 (.tup [.int 0,.int 0])) t1 (.tup [.int 1,.int 1])) t2 (.tup [.int 0,.int 1])) fl (.lst [.ref t0,.ref t1,.ref t2])) fl=some (.lst [.ref t0,.ref t1,.ref t2]):=zB
 have T0:=s5 _ _ (s4 _ _ (s3 _ _ (show (upd (upd H p2 (.lst [.int 0,.int (kk c)])) t0 (.tup [.int 0,.int 0])) t0=some (.tup [.int 0,.int 0]) from zB)))
 have T1:=s5 _ _ (s4 _ _ (show (upd (upd (upd H p2 (.lst [.int 0,.int (kk c)])) t0 (.tup [.int 0,.int 0])) t1 (.tup [.int 1,.int 1])) t1=some (.tup [.int 1,.int 1]) from zB))
 have T2:=s5 _ _ (show (upd (upd (upd (upd H p2 (.lst [.int 0,.int (kk c)])) t0 (.tup [.int 0,.int 0])) t1 (.tup [.int 1,.int 1])) t2 (.tup [.int 0,.int 1])) t2=some (.tup [.int 0,.int 1]) from zB)
 refine (show ∀ H5,(aB H H5→H5 fl=some (.lst [.ref t0,.ref t1,.ref t2])→H5 t0=some (.tup [.int 0,.int 0])→H5 t1=some (.tup [.int 1,.int 1])→H5 t2=some (.tup [.int 0,.int 1])→_)→aB H H5→H5 fl=some (.lst [.ref t0,.ref t1,.ref t2])→H5 t0=some (.tup [.int 0,.int 0])→H5 t1=some (.tup [.int 1,.int 1])→H5 t2=some (.tup [.int 0,.int 1])→_ from fun _ z=>z) _ ?_ S5 l5 T0 T1 T2
 clear S5 l5 T0 T1 T2 s5 s4 s3 s2 s1
 generalize upd (upd (upd (upd (upd H p2 _) t0 _) t1 _) t2 _) fl _=H5
 intro S5 l5 T0 T1 T2
 refine⟨_,rfl,a,ns,2,rfl,S5.seq hA,_,_,rfl,rfl,(by show (0:Int)<3;decide),?_⟩
 have f0:=Int.emod_nonneg (eY ns 2) (b:=3) (by decide)
 have f1:=Int.emod_lt_of_pos (eY ns 2) (b:=3) (by decide)
 obtain⟨tf,x0,x1,hat,htf,hx⟩:∃ tf x0 x1,jc [V.ref t0,V.ref t1,V.ref t2] (eY ns 2 % 3)=some (.ref tf)∧H5 tf=some (.tup [.int x0,.int x1])∧x0≤x1:=by
   have:eY ns 2 % 3=0∨eY ns 2 % 3=1∨eY ns 2 % 3=2:=by omega
   rcases this with e | e | e
   · rw [e];exact⟨t0,0,0,zP (j:=0) rfl,T0,by decide⟩
   · rw [e];exact⟨t1,1,1,zP (j:=1) rfl,T1,by decide⟩
   · rw [e];exact⟨t2,0,1,zP (j:=2) rfl,T2,by decide⟩
 refine⟨fl,_,_,_,rfl,rfl,b7.of l5,hat,?_⟩
 have g0:=Int.emod_nonneg (c / 2) (b:=4) (by decide)
 have g1:=Int.emod_lt_of_pos (c / 2) (b:=4) (by decide)
 obtain⟨wd,hwd,hmem⟩:=Em (l:=[0,1,3,(10:Int) ^ (18:Int).toNat]) (i:=c / 2 % 4) g0 g1
 have wd0:0≤wd:=by
   rw [p18] at hmem
   simp only [List.mem_cons,List.not_mem_nil,or_false] at hmem
   omega
 refine⟨_,rfl,_,rfl,_,_,rfl,rfl,⟨by decide,by decide,by symm⟩,(by show 4≤sizeLine;decide),fun p4 hp4=>?_⟩
 have s6:=zF hp4 (.lst [.int 0,.int 1,.int 3,.int ((10:Int) ^ (18:Int).toNat)])
 refine⟨_,rfl,_,_,rfl,rfl,⟨by decide,by decide⟩,_,_,rfl,rfl,(by show (0:Int)<4;decide),p4,_,_,_,rfl,rfl,b7.of zB,hwd,_,_,rfl,rfl,(by show 2≤sizeLine;decide),fun tt htt=>?_⟩
 have s7:=zF htt (.tup [.int lo,.int (lo+wd)])
 refine⟨_,rfl,(by show 2≤sizeLine;decide),fun l hl=>?_⟩
 have s8:=zF hl (.lst [.ref tt,.ref tf])
 refine q l _ (fun i=>if i=0 then (lo,lo+wd) else (x0,x1)) (((S5.trans s6).trans s7).trans s8) ⟨tt,tf,zB,s8 _ _ zB,s8 _ _ (s7 _ _ (s6 _ _ htf))⟩ (fun i=>?_)
 by_cases e:i=0
 · show (if i=0 then (lo,lo+wd) else (x0,x1)).1≤(if i=0 then (lo,lo+wd) else (x0,x1)).2
   rw [if_pos e];show lo≤lo+wd;omega
 · show (if i=0 then (lo,lo+wd) else (x0,x1)).1≤(if i=0 then (lo,lo+wd) else (x0,x1)).2
   rw [if_neg e];exact hx
end
section
variable {P:Program}{w:World}{K:W.Frag}{mg:Str→Option Value}{base:Heap}{A:cQ}
theorem Bx (T:Txt K mg A):bw P w K mg base b8 3 A.jG A.nR ["_law_names","_law_said"] (QK A):=by
 have gJ:=Ac (P:=P) (w:=w) (base:=base) T
 have mO:=Ab (P:=P) (w:=w) (base:=base) T
 have lu:=Ad (P:=P) (w:=w) (base:=base) T
 refine T.Dw.ok mL (fun vs H Q E h=>?_) (fun cdv A0 outer s H vs Q E hr h=>?_)
 · obtain⟨nl,N,x,sg,rfl,_⟩:=h
   rfl
 obtain⟨nl,N,x,sg,rfl,hN,hx,q⟩:=h
 refine⟨_,(zC (yA (zO xG (pv 1) yF (zQ _)) (zE (zN yF)) zR)
     (zC (zX (i:=2) mL.nd rfl ‹0› (yX T.zy gJ ‹hr› rfl T.Cv T.kJ .nil zT (zA (zW aV (pv 0) zG (fun _ _=>rfl)) (zA (zW yR (pv 1) zG (fun _ _=>rfl)) (zA (zW yR (pv 1) zG (fun _ _=>rfl)) zD)))))
     (zC (yA (zO yY (zW yR (pv 1) zG (fun _ _=>rfl)) zG (zQ _)) (zE (zX (i:=2) mL.nd rfl ‹0› (yX T.Ue mO ‹hr› rfl T.aah T.yw T.yx zT (zA (zW aV (pv 0) zG (fun _ _=>rfl)) (zA (zW aV (yN (zA yB (zA yB zD))) (zW yR (pv 1) zG (fun _ _=>rfl)) (fun _ _=>rfl)) zD))))) zR)
     (zC (yA (yO (zW yR (pv 1) zG (fun _ _=>rfl))) (zE (zN (yX T.Qc lu ‹hr› rfl T.Ud T.pG .nil zT (zA (pv 2) zD)))) zR)
     (zE (zN (pv 2))))))),?_⟩
 cases sg with
 | none =>
   have hx:x=.non:=hx
   subst hx
   exact⟨_,rfl,rfl,_,rfl,bM (q _ _ (aB.refl _) rfl)⟩
 | some y =>
   obtain⟨a,rfl,ha⟩:=(show nT H x _ from hx)
   have n0:jc [V.str (N 0),.str (N 1),.str (N 2),.str (N 3)] ((0:Nat):Int)=some (.str (N 0)):=zP rfl
   have n1:jc [V.str (N 0),.str (N 1),.str (N 2),.str (N 3)] ((1:Nat):Int)=some (.str (N 1)):=zP rfl
   have i0:jc [V.int (y.1.i:Nat),.str y.1.h,.int y.1.m,.bl y.2] ((0:Nat):Int)=some (.int (y.1.i:Nat)):=zP rfl
   have i1:jc [V.int (y.1.i:Nat),.str y.1.h,.int y.1.m,.bl y.2] ((1:Nat):Int)=some (.str y.1.h):=zP rfl
   have i2:jc [V.int (y.1.i:Nat),.str y.1.h,.int y.1.m,.bl y.2] ((2:Nat):Int)=some (.int y.1.m):=zP rfl
   have i3:jc [V.int (y.1.i:Nat),.str y.1.h,.int y.1.m,.bl y.2] ((3:Nat):Int)=some (.bl y.2):=zP rfl
   refine⟨_,rfl,rfl,_,rfl,aW ?_⟩
   refine⟨_,rfl,nl,_,_,_,rfl,rfl,b7.of hN,n0,_,rfl,a,_,_,_,rfl,rfl,ik.of ha,i1,_,rfl,a,_,_,_,rfl,rfl,ik.of ha,i2,?_⟩
   intro xa dx nx nd ne
   refine⟨xa,dx,_,_,_,rfl,zB,rfl,?_⟩
   rw [yH]
   have s1:=yE nx nd (Ui A dx (N 0) y.1.h y.1.m)
   have h1:(upd (upd H dx (.own xa)) xa (Ui A dx (N 0) y.1.h y.1.m)) xa=some (Ui A dx (N 0) y.1.h y.1.m):=zB
   dsimp only [dH,List.set_cons_succ,List.set_cons_zero]
   generalize upd (upd H dx (.own xa)) xa (Ui A dx (N 0) y.1.h y.1.m)=H1 at s1 h1 ⊢
   refine uq (fun σ H2=>∃ b,σ=[some (.ref nl),some (.ref a),some (.ref b)]∧aB H H2∧Bp A N H2 false b y.1) ?_ ?_
   · rintro σ H2 ⟨b,rfl,s2,hb⟩
     refine⟨_,rfl,a,_,_,_,rfl,rfl,ik.of (s2 _ _ ha),i3,_,rfl,?_⟩
     cases e:y.2 with
     | true =>
       refine bM ⟨_,rfl,?_⟩
       intro z dz nz ndz nez
       refine⟨z,dz,_,rfl,zB,rfl,?_⟩
       rw [yH]
       have s3:=yE nz ndz (Yr A dz b)
       exact q (.ref z) _ (s2.trans s3) ⟨z,rfl,.inr ⟨e,dz,b,zB,hb.kq (.of s3)⟩⟩
     | false=>exact aW ⟨_,rfl,q (.ref b) _ s2 ⟨b,rfl,.inl ⟨e,hb⟩⟩⟩
   · intro M hM
     refine⟨_,rfl,a,_,_,_,rfl,rfl,ik.of (s1 _ _ ha),i0,rfl,_,rfl,?_⟩
     obtain⟨t,ng⟩:=y
     cases t with
     | cmp hw m=>exact aW (hM _ _ ⟨xa,rfl,s1,dx,h1⟩)
     | is wd =>
       refine bM ?_
       refine⟨_,rfl,nl,_,_,_,rfl,rfl,b7.of (s1 _ _ hN),n1,(by show 2≤sizeLine;decide),fun wl hwl=>?_⟩
       have s2:=zF hwl (.lst [.str ‹"no"›,.str ‹"yes"›])
       have hat:jc [V.str ‹"no"›,V.str ‹"yes"›] (Uh wd)=some (.str (V9 wd)):=by
         cases wd
         · exact zP (j:=0) rfl
         · exact zP (j:=1) rfl
       refine⟨_,rfl,a,_,_,_,rfl,rfl,ik.of (s2 _ _ (s1 _ _ ha)),i2,wl,_,_,_,rfl,rfl,b7.of zB,hat,?_⟩
       intro z dz nz ndz nez
       refine⟨z,dz,_,_,_,rfl,zB,rfl,?_⟩
       rw [yH]
       exact hM _ _ ⟨z,rfl,(s1.trans s2).trans (yE nz ndz _),dz,zB⟩
end
inductive Tr where
 | leaf (v:V)
 | lst (l:List Tr)
 | tup (l:List Tr)
def Ah:V→Prop
 | .non=>True
 | .bl _=>True
 | .int _=>True
 | .str _=>True
 | _=>False
def M7 (H:Hp):Nat→V→Tr→Prop
 | _,x,.leaf v=>x=v∧Ah v
 | 0,_,_=>False
 | n+1,x,.lst l=>∃ a xs,x=.ref a∧H a=some (.lst xs)∧xs.length≤1000∧Paired (M7 H n) xs l
 | n+1,x,.tup l=>∃ a xs,x=.ref a∧H a=some (.tup xs)∧xs.length≤1000∧Paired (M7 H n) xs l
theorem M7.same {H H':Hp} (s:aB H H'):∀ {n:Nat}{x:V}{t:Tr},M7 H n x t→M7 H' n x t
 | 0,_,.leaf _,h=>h
 | _+1,_,.leaf _,h=>h
 | 0,_,.lst _,h=>h.elim
 | 0,_,.tup _,h=>h.elim
 | n+1,_,.lst _,⟨a,xs,e,h1,h2,h3⟩=>⟨a,xs,e,s _ _ h1,h2,zJ h3 fun _ _=>M7.same s⟩
 | n+1,_,.tup _,⟨a,xs,e,h1,h2,h3⟩=>⟨a,xs,e,s _ _ h1,h2,zJ h3 fun _ _=>M7.same s⟩
def akR (n:Nat):Sp:=fun vs H Q _=>∃ x y t m,vs=[x,y]∧m<n∧M7 H m x t∧M7 H m y t∧∀ H',aB H H'→Q (.bl true) H'
section
variable {P:Program}{w:World}{K:W.Frag}{mg:Str→Option Value}{base:Heap}{A:cQ}
theorem HR (T:Txt K mg A):∀ n,bw P w K mg base b8 (n+1) A.lJ A.o9 ["_law_found","_law_due"] (akR n)
 | 0=>⟨fun vs H Q E h=>by obtain⟨x,y,t,m,_,h,_⟩:=h;omega,fun _ _ _ _ _ _ _ _ _ _ _ _ _ h=>by obtain⟨x,y,t,m,_,h,_⟩:=h;omega⟩
 | n+1=>by
   have pY:=HR T n
   refine T.Gv.ok um (fun vs H Q E h=>?_) (fun cdv A0 outer s H vs Q E hr h=>?_)
   · obtain⟨x,y,t,m,rfl,_⟩:=h
     rfl
   obtain⟨x,y,t,m,rfl,hm,hx,hy,q⟩:=h
   refine⟨_,(zC (yA (yO (zY qd (by rfl) T.aH Bt.isinstance (zA (pv 1) (zA (yC (zA (yZ (v:=.ty "list") rfl T.pH Bt.list rfl) (zA (yZ (v:=.ty "tuple") rfl T.KZ Bt.tuple rfl) zD))) zD)))) (zC (yA (PW.pt (qM (zO NK (zY yS (by rfl) T.aH Bt.isinstance (zA (pv 1) (zA (yZ (v:=.ty "list") rfl T.pH Bt.list rfl) zD))) (zY yS (by rfl) T.aH Bt.isinstance (zA (pv 0) (zA (yZ (v:=.ty "list") rfl T.pH Bt.list rfl) zD))) (zQ _)) (mj (mq (yO (zY qd (by rfl) T.aH Bt.isinstance (zA (pv 0) (zA (yC (zA (yZ (v:=.ty "list") rfl T.pH Bt.list rfl) (zA (yZ (v:=.ty "tuple") rfl T.KZ Bt.tuple rfl) zD))) zD)))))))) (zE (zN xM)) zR)
     (zC (yA (zO NK (zY yU (by rfl) T.vN PySem.boot_len (zA (pv 0) zD)) (zY yU (by rfl) T.vN PySem.boot_len (zA (pv 1) zD)) (zQ _)) (zE (zN xM)) zR)
     (zC (jd PassesOwn.never rfl (qb rfl T.wW (zA (zY yU (by rfl) T.vN PySem.boot_len (zA (pv 1) zD)) zD)) (yL (i:=2) um.nd rfl ‹0›) (zE (yA (mq (yO (zZ pY ‹hr› rfl T.vM T.vL T.vK .nil zT (zA (zW (aV.or yR) (pv 0) (pv 2) (fun _ _=>rfl)) (zA (zW (aV.or yR) (pv 1) (pv 2) (fun _ _=>rfl)) zD))))) (zE (zN xM)) zR)))
     (zE (zN xM))))) zR)
     (zC (yA (zO xG (pv 1) yF (zQ _)) (zE (zN (xJ xG (pv 0) yF (zQ _)))) zR)
     (zC (yA (PW.pt (qM (yO (zY yS (by rfl) T.aH Bt.isinstance (zA (pv 1) (zA (yZ (v:=.ty "bool") rfl T.u0 Bt.bool rfl) zD)))) (mj (yO (zY yS (by rfl) T.aH Bt.isinstance (zA (pv 0) (zA (yZ (v:=.ty "bool") rfl T.u0 Bt.bool rfl) zD))))))) (zE (zN (CQ (zY yS (by rfl) T.aH Bt.isinstance (zA (pv 1) (zA (yZ (v:=.ty "bool") rfl T.u0 Bt.bool rfl) zD))) (CQ (zY yS (by rfl) T.aH Bt.isinstance (zA (pv 0) (zA (yZ (v:=.ty "bool") rfl T.u0 Bt.bool rfl) zD))) (Ie (xJ yY (pv 0) (pv 1) (zQ _))))))) zR)
     (zC (yA (yO (zY yS (by rfl) T.aH Bt.isinstance (zA (pv 1) (zA (yZ (v:=.ty "str") rfl T.Uc Bt.str rfl) zD)))) (zE (zN (CQ (zY yS (by rfl) T.aH Bt.isinstance (zA (pv 0) (zA (yZ (v:=.ty "str") rfl T.Uc Bt.str rfl) zD))) (Ie (xJ yY (pv 0) (pv 1) (zQ _)))))) zR)
     (zE (zN (CQ (zY yS (by rfl) T.aH Bt.isinstance (zA (pv 0) (zA (yZ (v:=.ty "int") rfl T.Ub Bt.int rfl) zD))) (Ie (xJ yY (pv 0) (pv 1) (zQ _)))))))))),?_⟩
   cases t with
   | leaf v =>
     obtain⟨rfl,hv⟩:x=v∧Ah v:=by cases m <;> exact hx
     obtain⟨rfl,_⟩:y=x∧Ah x:=by cases m <;> exact hy
     refine⟨_,rfl,(by show 2≤sizeLine;decide),fun t1 ht1=>?_⟩
     have s1:=zF ht1 (.tup [.ty "list",.ty "tuple"])
     have q1:=q _ s1
     cases y with
     | non=>exact⟨_,t1,_,_,_,rfl,zB,rfl,.old .non,jg T.wB T.u5,_,rfl,aW ⟨_,rfl,rfl,_,rfl,bM ⟨_,rfl,rfl,q1⟩⟩⟩
     | bl b =>
       refine⟨_,t1,_,_,_,rfl,zB,rfl,.old (.bl b),jg T.GX T.Dy,_,rfl,aW ⟨_,rfl,rfl,_,rfl,aW ?_⟩⟩
       have q2:Q (.bl (decide (V.bl b=V.bl b))) (upd H t1 (.tup [.ty "list",.ty "tuple"])):=by rw [decide_eq_true rfl];exact q1
       exact⟨_,rfl,_,_,_,_,rfl,rfl,.old (.bl b),T.lR,_,rfl,bM ⟨_,rfl,_,_,_,_,rfl,rfl,.old (.bl b),T.lR,_,rfl,bM ⟨_,rfl,_,_,_,_,rfl,rfl,.old (.bl b),T.lR,_,rfl,bM ⟨_,rfl,_,rfl,rfl,q2⟩⟩⟩⟩
     | int i =>
       have q2:Q (.bl (decide (V.int i=V.int i))) (upd H t1 (.tup [.ty "list",.ty "tuple"])):=by rw [decide_eq_true rfl];exact q1
       refine⟨_,t1,_,_,_,rfl,zB,rfl,.old (.int i),jg T.JQ T.GZ,_,rfl,aW ⟨_,rfl,rfl,_,rfl,aW ?_⟩⟩
       refine⟨_,rfl,_,_,_,_,rfl,rfl,.old (.int i),T.zc,_,rfl,aW ⟨_,rfl,_,_,_,_,rfl,rfl,.old (.int i),T.zc,_,rfl,aW ?_⟩⟩
       refine⟨_,rfl,_,_,_,_,rfl,rfl,.old (.int i),T.MF,_,rfl,aW ?_⟩
       exact⟨_,rfl,_,_,_,_,rfl,rfl,.old (.int i),T.Mz,_,rfl,bM ⟨_,rfl,_,rfl,rfl,q2⟩⟩
     | str z =>
       have q2:Q (.bl (decide (V.str z=V.str z))) (upd H t1 (.tup [.ty "list",.ty "tuple"])):=by rw [decide_eq_true rfl];exact q1
       refine⟨_,t1,_,_,_,rfl,zB,rfl,.old (.str z),jg T.JR T.G6,_,rfl,aW ⟨_,rfl,rfl,_,rfl,aW ?_⟩⟩
       refine⟨_,rfl,_,_,_,_,rfl,rfl,.old (.str z),T.zf,_,rfl,aW ⟨_,rfl,_,_,_,_,rfl,rfl,.old (.str z),T.zf,_,rfl,aW ?_⟩⟩
       refine⟨_,rfl,_,_,_,_,rfl,rfl,.old (.str z),T.Cu,_,rfl,bM ?_⟩
       exact⟨_,rfl,_,_,_,_,rfl,rfl,.old (.str z),T.Cu,_,rfl,bM ⟨_,rfl,_,rfl,rfl,q2⟩⟩
     | _=>exact hv.elim
   | lst l =>
     cases m with
     | zero=>exact hx.elim
     | succ m =>
       obtain⟨a,xs,rfl,ha,hxl,hxs⟩:=hx
       obtain⟨b,ys,rfl,hb,hyl,hys⟩:=hy
       have lx:=zU hxs
       have ly:=zU hys
       refine⟨_,rfl,(by show 2≤sizeLine;decide),fun t1 ht1=>?_⟩
       have s1:=zF ht1 (.tup [.ty "list",.ty "tuple"])
       refine⟨_,t1,_,_,_,rfl,zB,rfl,.old (.lst (s1 _ _ hb)),jg T.lU T.tR,_,rfl,bM ?_⟩
       refine⟨_,rfl,_,_,_,_,rfl,rfl,.old (.lst (s1 _ _ hb)),T.lU,_,rfl,_,_,_,_,rfl,rfl,.old (.lst (s1 _ _ ha)),T.lU,rfl,_,rfl,aW ?_⟩
       refine⟨_,rfl,(by show 2≤sizeLine;decide),fun t2 Er=>?_⟩
       have s2:=zF Er (.tup [.ty "list",.ty "tuple"])
       refine⟨_,t2,_,_,_,rfl,zB,rfl,.old (.lst (s2 _ _ (s1 _ _ ha))),jg T.lU T.tR,_,rfl,aW ?_⟩
       have s12:=s1.trans s2
       refine⟨_,rfl,a,_,rfl,.inl (b7.of (s12 _ _ ha)),_,rfl,b,_,rfl,.inl (b7.of (s12 _ _ hb)),rfl,_,rfl,?_⟩
       have el:(!decide (V.int ((xs.length:Nat):Int)=V.int ((ys.length:Nat):Int)))=false:=by rw [lx,ly];simp
       refine VR el ?_
       refine⟨_,rfl,b,_,rfl,.inl (b7.of (s12 _ _ hb)),_,rfl,(by omega),(by omega),?_⟩
       rw [Int.toNat_natCast]
       refine xu (fun i σ G=>∃ u,σ=[some (.ref a),some (.ref b),u]∧aB H G) ⟨_,rfl,s12⟩ (fun i σ G hi hw=>?_) (fun σ G hw=>?_)
       · obtain⟨u,rfl,sG⟩:=hw
         have hiy:i<ys.length:=by simpa using hi
         obtain⟨y,hy⟩:∃ y,ys[i]? = some y:=⟨_,List.getElem?_eq_getElem hiy⟩
         obtain⟨x,hx⟩:∃ x,xs[i]? = some x:=⟨_,List.getElem?_eq_getElem (by omega)⟩
         obtain⟨t,ht,hxt⟩:=yK hxs hx
         obtain⟨t',ht',hyt⟩:=yK hys hy
         rw [ht] at ht';cases ht'
         have ex:jc xs (0+(i:Int))=some x:=by rw [Int.zero_add];exact zP hx
         have ey:jc ys (0+(i:Int))=some y:=by rw [Int.zero_add];exact zP hy
         refine⟨_,rfl,_,rfl,.inl ⟨a,_,_,_,rfl,rfl,b7.of (sG _ _ ha),ex,_,rfl,_,rfl,.inl ⟨b,_,_,_,rfl,rfl,b7.of (sG _ _ hb),ey,?_⟩⟩⟩
         exact⟨_,_,t,m,rfl,by omega,hxt.same sG,hyt.same sG,fun H' s'=>⟨_,rfl,aW ⟨_,rfl,sG.trans s'⟩⟩⟩
       · obtain⟨u,rfl,sG⟩:=hw
         exact q _ sG
   | tup l =>
     cases m with
     | zero=>exact hx.elim
     | succ m =>
       obtain⟨a,xs,rfl,ha,hxl,hxs⟩:=hx
       obtain⟨b,ys,rfl,hb,hyl,hys⟩:=hy
       have lx:=zU hxs
       have ly:=zU hys
       refine⟨_,rfl,(by show 2≤sizeLine;decide),fun t1 ht1=>?_⟩
       have s1:=zF ht1 (.tup [.ty "list",.ty "tuple"])
       refine⟨_,t1,_,_,_,rfl,zB,rfl,.old (.tup (s1 _ _ hb)),jg T.jH T.qN,_,rfl,bM ?_⟩
       refine⟨_,rfl,_,_,_,_,rfl,rfl,.old (.tup (s1 _ _ hb)),T.jH,_,rfl,_,_,_,_,rfl,rfl,.old (.tup (s1 _ _ ha)),T.jH,rfl,_,rfl,aW ?_⟩
       refine⟨_,rfl,(by show 2≤sizeLine;decide),fun t2 Er=>?_⟩
       have s2:=zF Er (.tup [.ty "list",.ty "tuple"])
       refine⟨_,t2,_,_,_,rfl,zB,rfl,.old (.tup (s2 _ _ (s1 _ _ ha))),jg T.jH T.qN,_,rfl,aW ?_⟩
       have s12:=s1.trans s2
       refine⟨_,rfl,a,_,rfl,.inr (ik.of (s12 _ _ ha)),_,rfl,b,_,rfl,.inr (ik.of (s12 _ _ hb)),rfl,_,rfl,?_⟩
       have el:(!decide (V.int ((xs.length:Nat):Int)=V.int ((ys.length:Nat):Int)))=false:=by rw [lx,ly];simp
       refine VR el ?_
       refine⟨_,rfl,b,_,rfl,.inr (ik.of (s12 _ _ hb)),_,rfl,(by omega),(by omega),?_⟩
       rw [Int.toNat_natCast]
       refine xu (fun i σ G=>∃ u,σ=[some (.ref a),some (.ref b),u]∧aB H G) ⟨_,rfl,s12⟩ (fun i σ G hi hw=>?_) (fun σ G hw=>?_)
       · obtain⟨u,rfl,sG⟩:=hw
         have hiy:i<ys.length:=by simpa using hi
         obtain⟨y,hy⟩:∃ y,ys[i]? = some y:=⟨_,List.getElem?_eq_getElem hiy⟩
         obtain⟨x,hx⟩:∃ x,xs[i]? = some x:=⟨_,List.getElem?_eq_getElem (by omega)⟩
         obtain⟨t,ht,hxt⟩:=yK hxs hx
         obtain⟨t',ht',hyt⟩:=yK hys hy
         rw [ht] at ht';cases ht'
         have ex:jc xs (0+(i:Int))=some x:=by rw [Int.zero_add];exact zP hx
         have ey:jc ys (0+(i:Int))=some y:=by rw [Int.zero_add];exact zP hy
         refine⟨_,rfl,_,rfl,.inr ⟨a,_,_,_,rfl,rfl,ik.of (sG _ _ ha),ex,_,rfl,_,rfl,.inr ⟨b,_,_,_,rfl,rfl,ik.of (sG _ _ hb),ey,?_⟩⟩⟩
         exact⟨_,_,t,m,rfl,by omega,hxt.same sG,hyt.same sG,fun H' s'=>⟨_,rfl,aW ⟨_,rfl,sG.trans s'⟩⟩⟩
       · obtain⟨u,rfl,sG⟩:=hw
         exact q _ sG
end
def ctT:Ct→Tr
 | none=>.leaf .non
 | some q=>.tup [.leaf (.str q.1),.leaf (.int 0),.leaf (.int q.2)]
def rsT (sf:Gs):Tr:=.tup [.leaf (.bl (decide (sf.ct=none))),.lst (sf.L.map fun e=>.tup (e.map Tr.leaf)),.lst (sf.D.map fun z=>.leaf (.str z)),ctT sf.ct]
theorem vU {H:Hp}{n:Nat}:∀ {l:List V},(∀ v∈l,Ah v)→Paired (M7 H n) l (l.map Tr.leaf)
 | [],_=>.nil
 | v::l,h=>.cons (by
     have:=h v List.mem_cons_self
     cases n <;> exact⟨rfl,this⟩) (vU fun u hu=>h u (List.mem_cons_of_mem _ hu))
theorem Lb {H:Hp}{x:V}{sf:Gs} (h:Wx H x sf) (hl:sf.L.length≤1000) (hd:sf.D.length≤1000) (hf:∀ e∈sf.L,e.length≤1000∧∀ v∈e,Ah v):M7 H 3 x (rsT sf):=by
 obtain⟨p,lg,db,ts,cv,rfl,hp,Yy,hts,hdb,hc⟩:=h
 refine⟨p,_,rfl,hp,(by show 4≤1000;decide),.cons ⟨rfl,trivial⟩ (.cons ⟨lg,ts,rfl,Yy,by rw [zU hts];exact hl,?_⟩ (.cons ⟨db,_,rfl,hdb,by rw [List.length_map];exact hd,?_⟩ (.cons ?_ .nil)))⟩
 · have:∀ {ts:List V}{L:List (List V)},Paired (nT H) ts L→(∀ e∈L,e.length≤1000∧∀ v∈e,Ah v)→Paired (M7 H 1) ts (L.map fun e=>.tup (e.map Tr.leaf)):=by
     intro ts L h
     induction h with
     | nil=>intro _;exact .nil
     | @cons a e _ _ r _ ih =>
       intro hf
       obtain⟨ta,rfl,ht⟩:=r
       have he:=hf e List.mem_cons_self
       exact .cons ⟨ta,e,rfl,ht,he.1,vU he.2⟩ (ih fun e' h'=>hf e' (List.mem_cons_of_mem _ h'))
   exact this hts hf
 · have:∀ D:List Str,Paired (M7 H 1) (D.map V.str) (D.map fun z=>.leaf (.str z)):=fun D=>by
     induction D with
     | nil=>exact .nil
     | cons z D ih=>exact .cons ⟨rfl,trivial⟩ ih
   exact this _
 · cases hct:sf.ct with
   | none=>rw [hct] at hc;exact⟨hc,trivial⟩
   | some q =>
     rw [hct] at hc
     obtain⟨a,rfl,ha⟩:=(show nT H cv _ from hc)
     exact⟨a,_,rfl,ha,(by show 3≤1000;decide),.cons ⟨rfl,trivial⟩ (.cons ⟨rfl,trivial⟩ (.cons ⟨rfl,trivial⟩ .nil))⟩
def QL (K:W.Frag) (Pt:Addr):Sp:=fun vs H Q _=>∃ (a:Addr) (ns:List Int),vs=[.ref a]∧b7 K H a (ns.map V.int)∧ns.length≤63∧(∀ n∈ns,ib n≤1048576)∧H Pt=some (.lD uv)∧∀ H',Q (.bl true) H'
theorem vV {α β:Type}{R:α→β→Prop}:∀ {as:List α}{bs:List β} (n:Nat),Paired R as bs→Paired R (as.drop n) (bs.drop n)
 | _,_,0,h=>h
 | _,_,_+1,.nil=>.nil
 | _,_,n+1,.cons _ t=>vV n t
theorem vW {α β:Type}{R:α→β→Prop}:∀ {as:List α}{bs:List β} (n:Nat),Paired R as bs→Paired R (as.take n) (bs.take n)
 | _,_,0,_=>.nil
 | _,_,_+1,.nil=>.nil
 | _,_,n+1,.cons r t=>.cons r (vW n t)
theorem akU {R:V→Wy→Prop}{us:List V}{vs:List Wy} (h:Paired R us vs) (lo hi:Option Int):∃ ms,Paired R (Iw us lo hi) ms∧(∀ v∈ms,v∈vs)∧ms.length≤vs.length:=by
 unfold Iw
 refine⟨_,vW _ (vV _ h),fun v hv=>List.mem_of_mem_drop (List.mem_of_mem_take hv),?_⟩
 rw [List.length_take,List.length_drop]
 omega
abbrev Eo:List Str:=[zS,zM,zL,‹"end"›]
theorem QM {n:Nat} (h1:1≤n) (h3:n≤3):∃ t,jc [V.str zM,V.str zL,V.str ‹"end"›] ((n:Nat) - 1:Int)=some (.str t)∧Eo[n]? = some t:=by
 have:n=1∨n=2∨n=3:=by omega
 rcases this with rfl | rfl | rfl
 · exact⟨zM,zP (j:=0) rfl,rfl⟩
 · exact⟨zL,zP (j:=1) rfl,rfl⟩
 · exact⟨_,zP (j:=2) rfl,rfl⟩
theorem wX {p:Addr}{H Hm H':Hp} (s:aB H Hm) (n:H p=none) (F:Fr [p] Hm H'):aB H H':=fun b o e=>F b o (s b o e) (oJ (zH e n))
theorem Wx.same {H H':Hp} (f:aB H H') {x:V}{sf:Gs} (h:Wx H x sf):Wx H' x sf:=by
 obtain⟨p,lg,db,ts,cv,e,hp,Yy,hts,hdb,hc⟩:=h
 exact⟨p,lg,db,ts,cv,e,f _ _ hp,f _ _ Yy,zJ hts fun _ _=>nT.kq (.of f),f _ _ hdb,hc.kq (.of f)⟩
def EOk (e:List V):Prop:=e.length≤1000∧∀ v∈e,Ah v
def Eu (s:Gs) (n:Nat):Prop:=s.L.length≤n∧s.D.length≤n∧∀ e∈s.L,EOk e
theorem Ld (z:Str):EOk (jM z):=⟨by show 3≤1000;decide,fun v hv=>by
 unfold jM at hv
 simp only [List.mem_cons,List.not_mem_nil,or_false] at hv
 rcases hv with rfl | rfl | rfl <;> trivial⟩
theorem Le:EOk Bu:=⟨by show 1≤1000;decide,fun v hv=>by rw [List.mem_singleton.mp hv];trivial⟩
theorem Eu.rows {s:Gs}{n:Nat} (h:Eu s n) (rs:List Rw):Eu (aU s rs) (n+rs.length):=by
 rw [uw]
 refine⟨?_,Nat.le_trans h.2.1 (Nat.le_add_right _ _),fun e he=>?_⟩
 · show (s.L++rs.map fun r=>jM r.nm).length≤_
   rw [List.length_append,List.length_map]
   exact Nat.add_le_add_right h.1 _
 · rcases List.mem_append.mp he with he | he
   · exact h.2.2 e he
   · obtain⟨r,_,rfl⟩:=List.mem_map.mp he
     exact Ld _
theorem Eu.ways {s:Gs}{n:Nat} (h:Eu s n) (rg:Rg) (N:Nm) (ws:List Wy):Eu (aM rg N s ws).1 n:=by
 obtain⟨_,e1,e2⟩:=vm rg N s ws
 unfold Eu
 rw [e1,e2]
 exact h
theorem Eu.lv {p:Gs × List Nat}{n:Nat} (h:Eu p.1 n) (z:Str):Eu (su p z) (n+1):=by
 obtain⟨_,_,e1,e2⟩:=Uq p z
 refine⟨by rw [e1];exact Nat.le_succ_of_le h.1,Nat.le_trans e2 (Nat.add_le_add_right h.2.1 _),by rw [e1];exact h.2.2⟩
theorem Eu.ux {s:Gs}{n:Nat} (h:Eu s n) (j:Nat) (r:Rw):Eu (ux j s r) (n+2):=by
 unfold jB.ux
 split
 · refine⟨?_,Nat.le_trans h.2.1 (Nat.le_add_right _ _),fun e he=>?_⟩
   · show (s.L++[jM r.nm]++[Bu]).length≤_
     simp only [List.length_append,List.length_cons,List.length_nil]
     have:=h.1
     omega
   · rcases List.mem_append.mp he with he | he
     · rcases List.mem_append.mp he with he | he
       · exact h.2.2 e he
       · rw [List.mem_singleton.mp he];exact Ld _
     · rw [List.mem_singleton.mp he];exact Le
 · refine⟨?_,Nat.le_trans h.2.1 (Nat.le_add_right _ _),fun e he=>?_⟩
   · show (s.L++[Bu]).length≤_
     simp only [List.length_append,List.length_cons,List.length_nil]
     have:=h.1
     omega
   · rcases List.mem_append.mp he with he | he
     · exact h.2.2 e he
     · rw [List.mem_singleton.mp he];exact Le
theorem Eu.mono {s:Gs}{n m:Nat} (h:Eu s n) (k:n≤m):Eu s m:=⟨Nat.le_trans h.1 k,Nat.le_trans h.2.1 k,h.2.2⟩
theorem aa3 (rg:Rg) (N:Nm) (R0 R1 R2 R3:Rw) (ws more:List Wy):Eu (WQ rg N R0 R1 R2 R3 ws more) 1000:=by
 have h0:Eu vo 0:=⟨Nat.le_refl _,Nat.le_refl _,fun e he=>by cases he⟩
 have h1:=((h0.rows [R0,R1]).ways rg N ws).lv zS
 unfold WQ
 split
 · exact h1.mono (by simp)
 · split
   · unfold goM
     have h2:=((h1.rows [R2]).ways rg N more).lv zM
     split
     · exact h2.mono (by simp)
     · exact (h2.ux _ _).mono (by simp)
   · exact (h1.ux _ _).mono (by simp)
section
variable {P:Program}{w:World}{K:W.Frag}{mg:Str→Option Value}{base:Heap}{A:cQ}{Pt:Addr}
theorem WW (T:Txt K mg A) (B:BMain mg base) {c0:Addr} (hc:A.aL.code=.ref c0) (hh:W.codeHdIn K c0 Pt=true):bw P w K mg base b8 40 A.Pr A.Pu ["_law_script"] (QL K Pt):=by
 have dM:=pR (P:=P) (w:=w) (base:=base) T
 have Km:=Hi (P:=P) (w:=w) (base:=base) T
 have HS:=En (P:=P) (w:=w) (base:=base) T
 have CJ:=Kl (P:=P) (w:=w) (base:=base) T
 have uy:=Bx (P:=P) (w:=w) (base:=base) T
 have HW:=El (P:=P) (w:=w) (base:=base) T
 have pY:=HR (P:=P) (w:=w) (base:=base) T 4
 have Ko:=aaO (P:=P) (w:=w) (base:=base) B hc hh T
 have jA:=ur (P:=P) (w:=w) (base:=base) T
 have iY:=Hl (P:=P) (w:=w) (base:=base) T
 have ig:=Hk (P:=P) (w:=w) (base:=base) T
 have iZ:=Bm (P:=P) (w:=w) (base:=base) T
 have vy:=Bo (P:=P) (w:=w) (base:=base) T
 refine T.Ua.ok iW (fun vs H Q E h=>?_) (fun cdv A0 outer s H vs Q E hr h=>?_)
 · obtain⟨a,ns,rfl,_⟩:=h
   rfl
 obtain⟨a,ns,rfl,hA,hl,hb,hT,q⟩:=h
 refine⟨_,(zC (zX (i:=1) iW.nd rfl ‹0› (xr (xC (x:="_law_k") (M:=["_law_script","_law_names","_law_spans_here","_law_ways","_law_more","_law_aims","_law_first","_law_start","_law_led_here","_law_middle","_law_paper","_law_box"]) rfl (by rfl)) rfl (qb rfl T.wW (zA zG zD)) (fun _ _ _ _=>(zZ Km ‹hr› rfl T.JP T.JM T.JL .nil zT (zA (pv 1) (zA (pv 0) zD))))))
     (zC (zX (i:=2) iW.nd rfl ‹0› (zZ HS ‹hr› rfl T.Gz T.Gy T.Gx .nil zT (zA (pv 0) zD)))
     (zC (FP (i:=3) iW.nd rfl ‹0› (xC (x:="_law_k") (M:=["_law_script","_law_names","_law_spans_here","_law_ways","_law_more","_law_aims","_law_first","_law_start","_law_led_here","_law_middle","_law_paper","_law_box"]) rfl (by rfl)) rfl (qb rfl T.wW (zA (zV xD (zZ dM ‹hr› rfl T.gG T.gD T.gC .nil zT (zA (pv 0) (zA zG zD))) zG) zD)) (fun _ _ _ _=>(zZ CJ ‹hr› rfl T.Cm T.Ck T.Cj .nil zT (zA (zZ dM ‹hr› rfl T.gG T.gD T.gC .nil zT (zA (pv 1) (zA (zV mz zG (pv 0)) zD))) (zA (pv 3) zD)))))
     (zC (Ge (i:=4) iW.nd rfl ‹0› (jT (xC (x:="_law_aim") (M:=["_law_script","_law_names","_law_spans_here","_law_ways","_law_more","_law_aims","_law_first","_law_start","_law_led_here","_law_middle","_law_paper","_law_box"]) rfl (by rfl)) (by rfl) (by symm)) rfl (xA (xr (xC (x:="_law_k") (M:=["_law_script","_law_names","_law_spans_here","_law_ways","_law_more","_law_aims","_law_first","_law_start","_law_led_here","_law_middle","_law_paper","_law_box"]) rfl (by rfl)) rfl (qb rfl T.wW (zA zG zD)) (fun _ _ _ _=>(zZ CJ ‹hr› rfl T.Cm T.Ck T.Cj .nil zT (zA (zZ dM ‹hr› rfl T.gG T.gD T.gC .nil zT (zA (pv 1) (zA (zV mz zG (pv 0)) zD))) (zA (pv 3) zD)))))) (fun _ _ _ _=>oY) (fun _ _ _ _=>(yC (zA (zV mz zG (zV xD (pv 0) zG)) (zA (pv 1) zD)))))
     (zC (zX (i:=4) iW.nd rfl ‹0› (N7 Rx (pv 4) Rr (Rt (zV xD (zV xO (zZ dM ‹hr› rfl T.gG T.gD T.gC .nil zT (zA (pv 0) (zA zG zD))) zG) zG))))
     (zC (zX (i:=5) iW.nd rfl ‹0› (yN (zA yB (zA yB (zA yB zD)))))
     (zC (zX (i:=6) iW.nd rfl ‹0› (yN (zA (yX T.DK ig ‹hr› rfl T.K4 T.gf T.gh zT (zA (zW aV (pv 1) zG (fun _ _=>rfl)) (zA (yX T.PX jA ‹hr› rfl T.Sh T.ou .nil zT (zA (zV uB (zW yR (zW aV (pv 2) zG (fun _ _=>rfl)) zG (fun _ _=>rfl)) zG) (zA (zV mz (zW yR (zW aV (pv 2) zG (fun _ _=>rfl)) zG (fun _ _=>rfl)) zG) zD))) zD))) (zA (yX T.DK ig ‹hr› rfl T.K4 T.gf T.gh zT (zA (zW aV (pv 1) zG (fun _ _=>rfl)) (zA (xg T.zp iY ‹hr› rfl T.DG T.iR .nil zT) zD))) zD))))
     (zC (zX (i:=7) iW.nd rfl ‹0› (yX T.zr iZ ‹hr› rfl T.Dz T.iT .nil zT (zA yB (zA yF (zA (pv 6) (zA (xW (jT (xC (x:="_law_aim") (M:=["_law_script","_law_names","_law_spans_here","_law_ways","_law_more","_law_aims","_law_first","_law_start","_law_led_here","_law_middle","_law_paper","_law_box"]) rfl (by rfl)) (by rfl) (by symm)) rfl (xA (pv 3)) (fun _ _ _ _=>oY) (fun _ _ _ _=>Dk (by exact (yC (zA (zW aV (pv 7) (pv 0) (fun _ _=>rfl)) (zA (zZ uy ‹hr› rfl T.tQ T.tO T.tM .nil zT (zA (pv 3) (zA (pv 1) zD))) zD)))) (by dsimp only [cB] <;> rfl))) zD))))))
     (zC (Ge (i:=8) iW.nd rfl ‹0› (jT (xC (x:="_law_aim") (M:=["_law_script","_law_names","_law_spans_here","_law_ways","_law_more","_law_aims","_law_first","_law_start","_law_led_here","_law_middle","_law_paper","_law_box"]) rfl (by rfl)) (by rfl) (by symm)) rfl (xA (pv 4)) (fun _ _ _ _=>oY) (fun _ _ _ _=>Dk (by exact (yC (zA (zW aV (pv 7) (pv 0) (fun _ _=>rfl)) (zA (zZ uy ‹hr› rfl T.tQ T.tO T.tM .nil zT (zA (pv 3) (zA (pv 1) zD))) zD)))) (by dsimp only [cB] <;> rfl)))
     (zC (zX (i:=9) iW.nd rfl ‹0› (yX T.zr iZ ‹hr› rfl T.Dz T.iT .nil zT (zA yB (zA yF (zA (yN (zA (yX T.DK ig ‹hr› rfl T.K4 T.gf T.gh zT (zA (zW aV (pv 1) zG (fun _ _=>rfl)) (zA (xg T.zp iY ‹hr› rfl T.DG T.iR .nil zT) zD))) zD)) (zA (pv 8) zD))))))
     (zC (zX (i:=10) iW.nd rfl ‹0› (yX T.P0 vy ‹hr› rfl T.Sd T.uQ .nil zT (zA yB (zA (yN (zA (pv 7) (zA (pv 9) (zA (yX T.zr iZ ‹hr› rfl T.Dz T.iT .nil zT (zA yB (zA yF (zA (yN (zA (yX T.DK ig ‹hr› rfl T.K4 T.gf T.gh zT (zA (zW aV (pv 1) zG (fun _ _=>rfl)) (zA (xg T.zp iY ‹hr› rfl T.DG T.iR .nil zT) zD))) zD)) (zA (yN zD) zD))))) zD)))) (zA (yN zD) zD)))))
     (zC (zX (i:=11) iW.nd rfl ‹0› (Pq (ji hr) (Fo (yC (zA (zW aV (pv 1) zG (fun _ _=>rfl)) (zA zG zD))) (zW aV (pv 2) zG (fun _ _=>rfl)) (Fo (yC (zA (zW aV (pv 1) zG (fun _ _=>rfl)) (zA zG zD))) (zW aV (pv 2) zG (fun _ _=>rfl)) RD)) rfl rfl (by simp) (by decide)))
     (zE (zN (zZ pY ‹hr› rfl T.vM T.vL T.vK .nil zT (zA (zZ Ko ‹hr› rfl T.JD T.JC T.JB .nil zT (zA (pv 10) (zA (pv 11) zD))) (zA (zZ HW ‹hr› rfl T.GR T.GQ T.GP .nil zT (zA (pv 1) (zA (pv 3) (zA (pv 4) (zA (pv 2) zD))))) zD))))))))))))))))),?_⟩
 generalize h0:L2.start _ [V.ref a]=σ0
 have h0:σ0=[some (.ref a),none,none,none,none,none,none,none,none,none,none,none]:=by rw [← h0];rfl
 subst h0
 obtain⟨N,hN⟩:∃ N:Nm,N=Yq (eY ns 0):=⟨_,rfl⟩
 refine⟨_,rfl,(by decide),(by decide),?_⟩
 refine oW (n:=4) (by decide) (fun i ys G=>H=G∧ys=(List.range i).map fun k=>V.str (N k)) ⟨rfl,rfl⟩ (fun i ys G hi _ hw=>?_) (fun ys G _ hw nl hnl=>?_)
 · obtain⟨rfl,rfl⟩:=hw
   refine⟨_,rfl,_,rfl,a,ns,i,(by rw [Int.zero_add];rfl),hA,(by omega),rfl,?_⟩
   rw [List.range_succ,List.map_append,hN];rfl
 obtain⟨rfl,rfl⟩:=hw
 have er:(List.range 4).map (fun k=>V.str (N k))=[V.str (N 0),V.str (N 1),V.str (N 2),V.str (N 3)]:=rfl
 rw [er]
 have s1:=zF hnl (.lst [.str (N 0),.str (N 1),.str (N 2),.str (N 3)])
 have n1:K8 (upd H nl (.lst [.str (N 0),.str (N 1),.str (N 2),.str (N 3)])) nl N:=zB
 generalize upd H nl (HO.lst [.str (N 0),.str (N 1),.str (N 2),.str (N 3)])=H1 at s1 n1 ⊢
 dsimp only [dH,List.set_cons_succ,List.set_cons_zero]
 refine⟨_,rfl,a,ns,rfl,s1.seq hA,fun l H2 sp s2 hsp hok=>?_⟩
 dsimp only [dH,List.set_cons_succ,List.set_cons_zero]
 have c0':=K5 ns 3
 have w0:=Int.emod_nonneg (eY ns 3) (b:=5) (by decide)
 have w1:=Int.emod_lt_of_pos (eY ns 3) (b:=5) (by decide)
 refine⟨_,rfl,a,ns,3,rfl,(s1.trans s2).seq hA,_,_,rfl,rfl,(by show (0:Int)<5;decide),_,rfl,(by omega),(by omega),?_⟩
 have wl4:(eY ns 3 % 5).toNat≤4:=by omega
 refine oW (n:=(eY ns 3 % 5).toNat) (yJ (m:=100) (by omega)) (fun i ys G=>aB H2 G∧∃ ws,Paired (sy G) ys ws∧(∀ v∈ws,WT v)∧ws.length=i) ⟨aB.refl _,[],.nil,(fun _ h=>by cases h),rfl⟩ (fun i ys G hi _ hw=>?_) (fun ys G _ hw wl hwl=>?_)
 · obtain⟨sG,ws,hp,hv,hi'⟩:=hw
   refine⟨_,rfl,_,rfl,_,_,rfl,rfl,a,ns,4+i,(by dsimp only;rw [show ((4:Int)+(0+(i:Nat)))=((4+i:Nat):Int) by omega];rfl),((s1.trans s2).trans sG).seq hA,_,rfl,_,l,sp,rfl,hsp.kq (.of sG),fun x G' v s' hx Q6=>?_⟩
   refine⟨sG.trans s',ws++[v],yW (zJ hp fun _ _=>sy.kq (.of s')) (.cons hx .nil),fun u hu=>?_,by rw [List.length_append,hi'];rfl⟩
   rcases List.mem_append.mp hu with hu | hu
   · exact hv u hu
   · rw [List.mem_singleton.mp hu];exact Q6
 obtain⟨sG,ws,hws,hwv,hwn⟩:=hw
 have s3:=zF hwl (.lst ys)
 have hW3:(upd G wl (.lst ys)) wl=some (.lst ys):=zB
 have f3:aB H2 (upd G wl (.lst ys)):=sG.trans s3
 have aa4:Paired (sy (upd G wl (.lst ys))) ys ws:=zJ hws fun _ _=>sy.kq (.of s3)
 generalize upd G wl (HO.lst ys)=H3 at hW3 f3 aa4 ⊢
 clear s3 sG hws hwl
 dsimp only [dH,List.set_cons_succ,List.set_cons_zero]
 refine⟨_,rfl,(by decide),(by decide),?_⟩
 refine oW (n:=2) (by decide) (fun i zs G=>aB H3 G∧∃ ms,Paired (sy G) zs ms∧(∀ v∈ms,WT v)∧ms.length=i) ⟨aB.refl _,[],.nil,(fun _ h=>by cases h),rfl⟩ (fun i zs G hi _ hw=>?_) (fun zs G _ hw pl hpl=>?_)
 · obtain⟨sG,ms,hp,hv,hi'⟩:=hw
   have f4:=f3.trans sG
   refine⟨_,rfl,_,rfl,_,_,rfl,rfl,a,ns,8+i,(by dsimp only;rw [show ((8:Int)+(0+(i:Nat)))=((8+i:Nat):Int) by omega];rfl),((s1.trans s2).trans f4).seq hA,_,rfl,_,l,sp,rfl,hsp.kq (.of f4),fun x G' v s' hx Q6=>?_⟩
   refine⟨sG.trans s',ms++[v],yW (zJ hp fun _ _=>sy.kq (.of s')) (.cons hx .nil),fun u hu=>?_,by rw [List.length_append,hi'];rfl⟩
   rcases List.mem_append.mp hu with hu | hu
   · exact hv u hu
   · rw [List.mem_singleton.mp hu];exact Q6
 obtain⟨sG,ms,hms,hmv,hmn⟩:=hw
 have s4:=zF hpl (.lst zs)
 have hP4:(upd G pl (.lst zs)) pl=some (.lst zs):=zB
 have f4:aB H3 (upd G pl (.lst zs)):=sG.trans s4
 have WX:Paired (sy (upd G pl (.lst zs))) zs ms:=zJ hms fun _ _=>sy.kq (.of s4)
 generalize upd G pl (HO.lst zs)=H4 at hP4 f4 WX ⊢
 clear s4 sG hms hpl
 refine⟨pl,rfl,⟨zs,b7.of hP4⟩,?_⟩
 have zl:=zU WX
 refine jU (xs:=zs) (yJ (m:=100) (by omega)) (fun i us G=>aB H4 G∧∃ vs,Paired (sy G) us vs∧(∀ v∈vs,2≤v.1∧v.1≤3∧Ke v.2)∧vs.length=i) ⟨aB.refl _,[],.nil,(fun _ h=>by cases h),rfl⟩ (fun i us G hw=>b7.of (hw.1 _ _ hP4)) (fun i x us G hx hlen hw=>?_) (fun us G hw ml hml=>?_)
 · obtain⟨sG,vs,hp,hv,hi'⟩:=hw
   obtain⟨v,WY,ta,y,rfl,ht,hy⟩:=yK WX hx
   have Q6:=hmv v (List.mem_of_getElem? WY)
   refine⟨ta,_,_,rfl,ik.of (sG _ _ ht),DX ?_⟩
   have r0:=Int.emod_nonneg ((v.1:Nat) - 1:Int) (b:=2) (by decide)
   have r1:=Int.emod_lt_of_pos ((v.1:Nat) - 1:Int) (b:=2) (by decide)
   refine⟨_,rfl,_,_,rfl,rfl,(by show (0:Int)<2;decide),_,_,rfl,rfl,_,rfl,(by show 2≤sizeLine;decide),fun p hp'=>?_⟩
   have s5:=zF hp' (.tup [.int (1+((v.1:Nat) - 1:Int) % 2),y])
   refine⟨sG.trans s5,vs++[(2+(((v.1:Nat) - 1:Int) % 2).toNat,v.2)],yW (zJ hp fun _ _=>sy.kq (.of s5)) (.cons ⟨p,y,rfl,?_,(hy.kq (.of (sG.trans s5)))⟩ .nil),fun u hu=>?_,by rw [List.length_append,hi'];rfl⟩
   · show _=some (HO.tup [V.int (((2+(((v.1:Nat) - 1:Int) % 2).toNat:Nat):Int) - 1),y])
     rw [show (((2+(((v.1:Nat) - 1:Int) % 2).toNat:Nat):Int) - 1)=1+((v.1:Nat) - 1:Int) % 2 by omega]
     exact zB
   · rcases List.mem_append.mp hu with hu | hu
     · exact hv u hu
     · rw [List.mem_singleton.mp hu]
       exact⟨by show 2≤2+(((v.1:Nat) - 1:Int) % 2).toNat;omega,by show 2+(((v.1:Nat) - 1:Int) % 2).toNat≤3;omega,Q6.2.2⟩
 obtain⟨sG,vs,hvs,hvv,hvn⟩:=hw
 have s5:=zF hml (.lst us)
 have hM5:(upd G ml (.lst us)) ml=some (.lst us):=zB
 have f5:aB H4 (upd G ml (.lst us)):=sG.trans s5
 have W0:Paired (sy (upd G ml (.lst us))) us vs:=zJ hvs fun _ _=>sy.kq (.of s5)
 generalize upd G ml (HO.lst us)=H5 at hM5 f5 W0 ⊢
 clear s5 sG hvs hml
 dsimp only [dH,List.set_cons_succ,List.set_cons_zero]
 have S5:aB H H5:=(((s1.trans s2).trans f3).trans f4).trans f5
 have g35:aB H2 H5:=(f3.trans f4).trans f5
 have n5:K8 H5 nl N:=(s2.trans g35) _ _ n1
 have akX:=hsp.kq (.of g35)
 have hW5:=(f4.trans f5) _ _ hW3
 have aa5:Paired (sy H5) ys ws:=zJ aa4 fun _ _=>sy.kq (.of (f4.trans f5))
 have hT5:=S5 _ _ hT
 refine⟨_,rfl,_,rfl,a,ns,3,rfl,S5.seq hA,_,_,rfl,rfl,⟨by decide,by decide⟩,_,_,rfl,rfl,(by show (0:Int)<3;decide),_,rfl,ml,us,rfl,b7.of hM5,fun mo hmo=>?_⟩
 dsimp only [dH,List.set_cons_succ,List.set_cons_zero]
 obtain⟨Ib,aa6,hmem2,avc⟩:=akU W0 none (some (eY ns 3 / 5 % 3))
 have Tj:∀ v∈Ib,2≤v.1∧v.1≤3∧Ke v.2:=fun v hv=>hvv v (hmem2 v hv)
 have avd:Ib.length≤2:=by have:=zU W0;omega
 generalize Iw us none (some (eY ns 3 / 5 % 3))=Q7 at aa6 ⊢
 have s6:=zF hmo (.lst Q7)
 have hM6:(upd H5 mo (.lst Q7)) mo=some (.lst Q7):=zB
 have W2:Paired (sy (upd H5 mo (.lst Q7))) Q7 Ib:=zJ aa6 fun _ _=>sy.kq (.of s6)
 have n6:=n5
 generalize upd H5 mo (HO.lst Q7)=H6 at s6 hM6 W2 ⊢
 refine⟨(by show 3≤sizeLine;decide),fun al hal=>?_⟩
 have s7:=zF hal (.lst [.str zM,.str zL,.str ‹"end"›])
 have hA7:(upd H6 al (.lst [.str zM,.str zL,.str ‹"end"›])) al=some (.lst [.str zM,.str zL,.str ‹"end"›]):=zB
 generalize upd H6 al (HO.lst [.str zM,.str zL,.str ‹"end"›])=H7 at s7 hA7 ⊢
 dsimp only [dH,List.set_cons_succ,List.set_cons_zero]
 obtain⟨t0,t1,lE,t0E,t1E⟩:=akX.ex
 have YB:=s6.trans s7
 have n7:K8 H7 nl N:=YB _ _ n5
 have i0:jc [V.str (N 0),.str (N 1),.str (N 2),.str (N 3)] ((0:Nat):Int)=some (.str (N 0)):=zP rfl
 have i1:jc [V.str (N 0),.str (N 1),.str (N 2),.str (N 3)] ((1:Nat):Int)=some (.str (N 1)):=zP rfl
 have i2:jc [V.str (N 0),.str (N 1),.str (N 2),.str (N 3)] ((2:Nat):Int)=some (.str (N 2)):=zP rfl
 have i3:jc [V.str (N 0),.str (N 1),.str (N 2),.str (N 3)] ((3:Nat):Int)=some (.str (N 3)):=zP rfl
 have l0:jc [V.ref t0,V.ref t1] ((0:Nat):Int)=some (.ref t0):=zP rfl
 have l1:jc [V.ref t0,V.ref t1] ((1:Nat):Int)=some (.ref t1):=zP rfl
 have m0:jc [V.int (sp 0).1,V.int (sp 0).2] ((0:Nat):Int)=some (.int (sp 0).1):=zP rfl
 have m1:jc [V.int (sp 0).1,V.int (sp 0).2] ((1:Nat):Int)=some (.int (sp 0).2):=zP rfl
 obtain⟨R0,eR0⟩:∃ R:Rw,R=⟨N 0,(sp 0).1 - 2,(sp 0).2+2,true⟩:=⟨_,rfl⟩
 obtain⟨R1,eR1⟩:∃ R:Rw,R=⟨N 1,0,1,false⟩:=⟨_,rfl⟩
 obtain⟨R2,eR2⟩:∃ R:Rw,R=⟨N 2,0,1,false⟩:=⟨_,rfl⟩
 obtain⟨R3,eR3⟩:∃ R:Rw,R=⟨N 3,0,1,false⟩:=⟨_,rfl⟩
 refine⟨_,rfl,nl,_,_,_,rfl,rfl,b7.of n7,i0,_,rfl,l,_,_,_,rfl,rfl,b7.of (YB _ _ lE),l0,t0,_,_,_,rfl,rfl,ik.of (YB _ _ t0E),m0,_,_,rfl,rfl,_,rfl,l,_,_,_,rfl,rfl,b7.of (YB _ _ lE),l0,t0,_,_,_,rfl,rfl,ik.of (YB _ _ t0E),m1,_,_,rfl,rfl,?_⟩
 intro k0 Us nk0 akZ _
 refine⟨k0,A.cI,Us,_,_,rfl,zB,T.G7,T.tV,T.qP,rfl,?_⟩
 rw [yH]
 have v1:=yE nk0 akZ (.ins A.cI Us [("low",.int ((sp 0).1 - 2)),("high",.int ((sp 0).2+2))])
 have K0:(upd (upd H7 Us (.own k0)) k0 (.ins A.cI Us [("low",.int ((sp 0).1 - 2)),("high",.int ((sp 0).2+2))])) k0=some (oK A Us R0):=by rw [eR0];exact zB
 dsimp only
 generalize upd (upd H7 Us (.own k0)) k0 (HO.ins A.cI Us [("low",.int ((sp 0).1 - 2)),("high",.int ((sp 0).2+2))])=H8 at v1 K0 ⊢
 intro a0 Ut na0 ak0 _
 refine⟨a0,Ut,_,_,_,rfl,zB,rfl,?_⟩
 rw [yH]
 have v2:=yE na0 ak0 (oM A Ut (.str (N 0)) (.ref k0) .non)
 have A0':(upd (upd H8 Ut (.own a0)) a0 (oM A Ut (.str (N 0)) (.ref k0) .non)) a0=some (oM A Ut (.str (N 0)) (.ref k0) .non):=zB
 generalize upd (upd H8 Ut (.own a0)) a0 (oM A Ut (.str (N 0)) (.ref k0) .non)=H9 at v2 A0' ⊢
 have s79:=v1.trans v2
 refine⟨_,rfl,nl,_,_,_,rfl,rfl,b7.of (s79 _ _ n7),i1,?_⟩
 intro k1 Uu nk1 ak1 _
 refine⟨k1,Uu,rfl,zB,rfl,?_⟩
 rw [yH]
 have v3:=yE nk1 ak1 (.ins A.bj Uu [("low",.int 0),("high",.int 1)])
 have K1:(upd (upd H9 Uu (.own k1)) k1 (.ins A.bj Uu [("low",.int 0),("high",.int 1)])) k1=some (oK A Uu R1):=by rw [eR1];exact zB
 generalize upd (upd H9 Uu (.own k1)) k1 (HO.ins A.bj Uu [("low",.int 0),("high",.int 1)])=H10 at v3 K1 ⊢
 intro a1 Uv na1 ak2 _
 refine⟨a1,Uv,_,_,_,rfl,zB,rfl,?_⟩
 rw [yH]
 have v4:=yE na1 ak2 (oM A Uv (.str (N 1)) (.ref k1) .non)
 have A1':(upd (upd H10 Uv (.own a1)) a1 (oM A Uv (.str (N 1)) (.ref k1) .non)) a1=some (oM A Uv (.str (N 1)) (.ref k1) .non):=zB
 generalize upd (upd H10 Uv (.own a1)) a1 (oM A Uv (.str (N 1)) (.ref k1) .non)=Q4 at v4 A1' ⊢
 refine⟨(by show 2≤sizeLine;decide),fun fl hfl=>?_⟩
 have v5:=zF hfl (.lst [.ref a0,.ref a1])
 have F12:(upd Q4 fl (.lst [.ref a0,.ref a1])) fl=some (.lst [.ref a0,.ref a1]):=zB
 generalize upd Q4 fl (HO.lst [.ref a0,.ref a1])=QB at v5 F12 ⊢
 have aa7:Paired (Qj A QB) [.ref a0,.ref a1] [R0,R1]:=by
   have w45:=v4.trans v5
   refine .cons ⟨a0,Ut,k0,Us,rfl,?_,((v2.trans v3).trans w45) _ _ K0⟩ (.cons ⟨a1,Uv,k1,Uu,rfl,?_,w45 _ _ K1⟩ .nil)
   · rw [eR0];exact (v3.trans w45) _ _ A0'
   · rw [eR1];exact v5 _ _ A1'
 have QQ:aB H7 QB:=(s79.trans v3).trans (v4.trans v5)
 dsimp only [dH,List.set_cons_succ,List.set_cons_zero]
 have n12:K8 QB nl N:=QQ _ _ n7
 have aa8:=QQ _ _ hA7
 have W3:aB H5 QB:=YB.trans QQ
 have W12:=W3 _ _ hW5
 have QR:Paired (sy QB) ys ws:=zJ aa5 fun _ _=>sy.kq (.of W3)
 refine⟨_,rfl,_,rfl,wl,rfl,⟨ys,b7.of W12⟩,?_⟩
 refine jU (xs:=ys) (yJ (m:=100) (by have:=zU QR;omega)) (fun i zs G=>aB QB G∧Paired (JZ A N Eo G) zs (ws.take i)) ⟨aB.refl _,.nil⟩ (fun i zs G hw=>b7.of (hw.1 _ _ W12)) (fun i x zs G hx hlen hw=>?_) (fun zs G hw lw hlw=>?_)
 · obtain⟨sG,hp⟩:=hw
   obtain⟨v,WY,ta,y,rfl,ht,hy⟩:=yK QR hx
   have Q6:=hwv v (List.mem_of_getElem? WY)
   obtain⟨t,ht1,Er⟩:=QM (n:=v.1) Q6.1 Q6.2.1
   refine⟨ta,_,_,rfl,ik.of (sG _ _ ht),DX ?_⟩
   refine⟨_,rfl,_,rfl,al,_,_,_,rfl,rfl,b7.of (sG _ _ aa8),ht1,_,rfl,_,rfl,nl,N,y,v.2,rfl,sG _ _ n12,hy.kq (.of sG),fun y' G' s' hS=>?_⟩
   refine⟨(by show 2≤sizeLine;decide),fun p hp'=>?_⟩
   have s5:=zF hp' (.tup [.str t,y'])
   refine⟨(sG.trans s').trans s5,?_⟩
   rw [take_snoc WY]
   exact yW (zJ hp fun _ _=>JZ.kq (.of (s'.trans s5))) (.cons ⟨p,y',t,rfl,zB,Er,hS.kq (.of s5)⟩ .nil)
 obtain⟨sG,YC⟩:=hw
 rw [zU QR,List.take_length] at YC
 have x1:=zF hlw (.lst zs)
 have LW:(upd G lw (.lst zs)) lw=some (.lst zs):=zB
 have s13:aB QB (upd G lw (.lst zs)):=sG.trans x1
 have Uw:Paired (JZ A N Eo (upd G lw (.lst zs))) zs ws:=zJ YC fun _ _=>JZ.kq (.of x1)
 generalize upd G lw (HO.lst zs)=Q5 at LW s13 Uw ⊢
 clear x1 YC sG hlw
 intro W4 W5 aba abb _
 have y1:=yE aba abb (.ins A.gb W5 [])
 refine⟨W4,W5,_,_,fl,lw,_,_,rfl,zB,y1 _ _ (s13 _ _ F12),y1 _ _ LW,fun q1 q2 W6 _ _ _ F14 ak4 hq1 hq2=>⟨rfl,?_⟩⟩
 have s14:aB Q5 W6:=wX y1 aba F14
 have SH1:Qk A N Eo W6 (.ref W4) (zS,[R0,R1],ws):=⟨W4,W5,q1,q2,_,_,rfl,ak4,hq1,hq2,zJ aa7 fun _ _=>Qj.kq (.of (s13.trans s14)),zJ Uw fun _ _=>JZ.kq (.of s14)⟩
 dsimp only [dH,List.set_cons_succ,List.set_cons_zero]
 have abd:aB H6 W6:=((s7.trans QQ).trans s13).trans s14
 have QS:=s13.trans s14
 have M14:=abd _ _ hM6
 have QT:Paired (sy W6) Q7 Ib:=zJ W2 fun _ _=>sy.kq (.of abd)
 have n14:K8 W6 nl N:=QS _ _ n12
 have ak5:=QS _ _ aa8
 refine⟨_,rfl,mo,rfl,⟨Q7,b7.of M14⟩,?_⟩
 refine jU (xs:=Q7) (yJ (m:=100) (by have:=zU QT;omega)) (fun i zs G=>aB W6 G∧Paired (JZ A N Eo G) zs (Ib.take i)) ⟨aB.refl _,.nil⟩ (fun i zs G hw=>b7.of (hw.1 _ _ M14)) (fun i x zs G hx hlen hw=>?_) (fun zs G hw lw hlw=>?_)
 · obtain⟨sG,hp⟩:=hw
   obtain⟨v,WY,ta,y,rfl,ht,hy⟩:=yK QT hx
   have Q6:=Tj v (List.mem_of_getElem? WY)
   obtain⟨t,ht1,Er⟩:=QM (n:=v.1) (by omega) Q6.2.1
   refine⟨ta,_,_,rfl,ik.of (sG _ _ ht),DX ?_⟩
   refine⟨_,rfl,_,rfl,al,_,_,_,rfl,rfl,b7.of (sG _ _ ak5),ht1,_,rfl,_,rfl,nl,N,y,v.2,rfl,sG _ _ n14,hy.kq (.of sG),fun y' G' s' hS=>?_⟩
   refine⟨(by show 2≤sizeLine;decide),fun p hp'=>?_⟩
   have s5:=zF hp' (.tup [.str t,y'])
   refine⟨(sG.trans s').trans s5,?_⟩
   rw [take_snoc WY]
   exact yW (zJ hp fun _ _=>JZ.kq (.of (s'.trans s5))) (.cons ⟨p,y',t,rfl,zB,Er,hS.kq (.of s5)⟩ .nil)
 obtain⟨sG,YC⟩:=hw
 rw [zU QT,List.take_length] at YC
 have x1:=zF hlw (.lst zs)
 have LM:(upd G lw (.lst zs)) lw=some (.lst zs):=zB
 have s15:aB W6 (upd G lw (.lst zs)):=sG.trans x1
 have Ux:Paired (JZ A N Eo (upd G lw (.lst zs))) zs Ib:=zJ YC fun _ _=>JZ.kq (.of x1)
 generalize upd G lw (HO.lst zs)=H15 at LM s15 Ux ⊢
 dsimp only [dH,List.set_cons_succ,List.set_cons_zero]
 have n15:K8 H15 nl N:=s15 _ _ n14
 refine⟨_,rfl,nl,_,_,_,rfl,rfl,b7.of n15,i2,?_⟩
 intro k2 Uy nk2 ak6 _
 refine⟨k2,Uy,rfl,zB,rfl,?_⟩
 rw [yH]
 have e2a:=yE nk2 ak6 (.ins A.bj Uy [("low",.int 0),("high",.int 1)])
 have K2:(upd (upd H15 Uy (.own k2)) k2 (.ins A.bj Uy [("low",.int 0),("high",.int 1)])) k2=some (oK A Uy R2):=by rw [eR2];exact zB
 generalize upd (upd H15 Uy (.own k2)) k2 (HO.ins A.bj Uy [("low",.int 0),("high",.int 1)])=Ha2 at e2a K2 ⊢
 intro a2 Uz na2 ak7 _
 refine⟨a2,Uz,_,_,_,rfl,zB,rfl,?_⟩
 rw [yH]
 have e2b:=yE na2 ak7 (oM A Uz (.str (N 2)) (.ref k2) .non)
 have B2:(upd (upd Ha2 Uz (.own a2)) a2 (oM A Uz (.str (N 2)) (.ref k2) .non)) a2=some (oM A Uz (.str (N 2)) (.ref k2) .non):=zB
 generalize upd (upd Ha2 Uz (.own a2)) a2 (oM A Uz (.str (N 2)) (.ref k2) .non)=Hb2 at e2b B2 ⊢
 refine⟨(by show 1≤sizeLine;decide),fun fl2 ak9=>?_⟩
 have e2c:=zF ak9 (.lst [.ref a2])
 have L2:(upd Hb2 fl2 (.lst [.ref a2])) fl2=some (.lst [.ref a2]):=zB
 generalize upd Hb2 fl2 (HO.lst [.ref a2])=Hc2 at e2c L2 ⊢
 have abf:Paired (Qj A Hc2) [.ref a2] [R2]:=.cons ⟨a2,Uz,k2,Uy,rfl,(by rw [eR2];exact e2c _ _ B2),(e2b.trans e2c) _ _ K2⟩ .nil
 have E2:aB H15 Hc2:=(e2a.trans e2b).trans e2c
 refine⟨_,rfl,?_⟩
 intro W7 W8 abg abh _
 have y2:=yE abg abh (.ins A.gb W8 [])
 refine⟨W7,W8,_,_,fl2,lw,_,_,rfl,zB,y2 _ _ L2,y2 _ _ (E2 _ _ LM),fun q3 q4 UG _ _ _ F16 alb hq3 hq4=>⟨rfl,?_⟩⟩
 have s16:aB Hc2 UG:=wX y2 abg F16
 have Lf:aB H15 UG:=E2.trans s16
 have SH2:Qk A N Eo UG (.ref W7) (zM,[R2],Ib):=⟨W7,W8,q3,q4,_,_,rfl,alb,hq3,hq4,zJ abf fun _ _=>Qj.kq (.of s16),zJ Ux fun _ _=>JZ.kq (.of Lf)⟩
 dsimp only [dH,List.set_cons_succ,List.set_cons_zero]
 have n16:K8 UG nl N:=Lf _ _ n15
 refine⟨_,rfl,_,rfl,?_⟩
 refine⟨_,rfl,nl,_,_,_,rfl,rfl,b7.of n16,i3,?_⟩
 intro k3 UJ nk3 alc _
 refine⟨k3,UJ,rfl,zB,rfl,?_⟩
 rw [yH]
 have e3a:=yE nk3 alc (.ins A.bj UJ [("low",.int 0),("high",.int 1)])
 have K3:(upd (upd UG UJ (.own k3)) k3 (.ins A.bj UJ [("low",.int 0),("high",.int 1)])) k3=some (oK A UJ R3):=by rw [eR3];exact zB
 generalize upd (upd UG UJ (.own k3)) k3 (HO.ins A.bj UJ [("low",.int 0),("high",.int 1)])=Ha3 at e3a K3 ⊢
 intro a3 UL na3 ald _
 refine⟨a3,UL,_,_,_,rfl,zB,rfl,?_⟩
 rw [yH]
 have e3b:=yE na3 ald (oM A UL (.str (N 3)) (.ref k3) .non)
 have B3:(upd (upd Ha3 UL (.own a3)) a3 (oM A UL (.str (N 3)) (.ref k3) .non)) a3=some (oM A UL (.str (N 3)) (.ref k3) .non):=zB
 generalize upd (upd Ha3 UL (.own a3)) a3 (oM A UL (.str (N 3)) (.ref k3) .non)=Hb3 at e3b B3 ⊢
 refine⟨(by show 1≤sizeLine;decide),fun fl3 alf=>?_⟩
 have e3c:=zF alf (.lst [.ref a3])
 have L3:(upd Hb3 fl3 (.lst [.ref a3])) fl3=some (.lst [.ref a3]):=zB
 generalize upd Hb3 fl3 (HO.lst [.ref a3])=Hc3 at e3c L3 ⊢
 have abi:Paired (Qj A Hc3) [.ref a3] [R3]:=.cons ⟨a3,UL,k3,UJ,rfl,(by rw [eR3];exact e3c _ _ B3),(e3b.trans e3c) _ _ K3⟩ .nil
 have E3:aB UG Hc3:=(e3a.trans e3b).trans e3c
 refine⟨(by show 0≤sizeLine;decide),fun ew hew=>?_⟩
 have z1:=zF hew (.lst [])
 have EW:(upd Hc3 ew (.lst [])) ew=some (.lst []):=zB
 generalize upd Hc3 ew (HO.lst [])=H17 at z1 EW ⊢
 intro W9 Xa abj abk _
 have y3:=yE abj abk (.ins A.gb Xa [])
 refine⟨W9,Xa,_,_,fl3,ew,_,_,rfl,zB,y3 _ _ (z1 _ _ L3),y3 _ _ EW,fun q5 q6 YD _ _ _ F18 alg hq5 hq6=>⟨rfl,?_⟩⟩
 have s18:aB H17 YD:=wX y3 abj F18
 have QV:aB UG YD:=(E3.trans z1).trans s18
 have SH3:Qk A N Eo YD (.ref W9) (zL,[R3],[]):=⟨W9,Xa,q5,q6,_,_,rfl,alg,hq5,hq6,zJ abi fun _ _=>Qj.kq (.of (z1.trans s18)),.nil⟩
 refine⟨(by show 3≤sizeLine;decide),fun ls hls=>?_⟩
 have z2:=zF hls (.lst [.ref W4,.ref W7,.ref W9])
 have LS:(upd YD ls (.lst [.ref W4,.ref W7,.ref W9])) ls=some (.lst [.ref W4,.ref W7,.ref W9]):=zB
 generalize upd YD ls (HO.lst [.ref W4,.ref W7,.ref W9])=H19 at z2 LS ⊢
 refine⟨(by show 0≤sizeLine;decide),fun lt hlt=>?_⟩
 have z3:=zF hlt (.lst [])
 have LT:(upd H19 lt (.lst [])) lt=some (.lst []):=zB
 generalize upd H19 lt (HO.lst [])=H20 at z3 LT ⊢
 intro pa dpa npa ali _
 have y4:=yE npa ali (.ins A.fZ dpa [])
 refine⟨pa,dpa,_,ls,lt,_,rfl,zB,y4 _ _ (z3 _ _ LS),y4 _ _ LT,fun q7 q8 UT F21 hpa hq7 hq8=>⟨rfl,?_⟩⟩
 have s21:aB H20 UT:=wX y4 npa F21
 have Lg:aB YD UT:=(z2.trans z3).trans s21
 have PA:Ql A N UT pa [(zS,[R0,R1],ws),(zM,[R2],Ib),(zL,[R3],[])]:=⟨dpa,_,q7,q8,_,hpa,hq7,hq8,.cons (SH1.kq (.of ((s15.trans Lf).trans (QV.trans Lg)))) (.cons (SH2.kq (.of (QV.trans Lg))) (.cons (SH3.kq (.of Lg)) .nil))⟩
 have UW:aB QB UT:=(QS.trans s15).trans (Lf.trans (QV.trans Lg))
 have abl:=W3.trans UW
 have abm:aB H6 UT:=(s7.trans QQ).trans UW
 dsimp only [dH,List.set_cons_succ,List.set_cons_zero]
 have inj:∀ {j k:Nat},N j=N k→j=k:=fun {j k} e=>by rw [hN] at e;exact V1 e
 obtain⟨rg,hrg⟩:∃ rg:Rg,rg=fun z=>if z=N 0 then sp 0 else if z=N 1 then sp 1 else (0,1):=⟨_,rfl⟩
 have rg0:rg (N 0)=sp 0:=by rw [hrg];exact if_pos rfl
 have rg1:rg (N 1)=sp 1:=by rw [hrg];show (if N 1=N 0 then sp 0 else if N 1=N 1 then sp 1 else (0,1))=_;rw [if_neg (fun z=>absurd (inj z) (by decide)),if_pos rfl]
 have rgn:∀ k,2≤k→rg (N k)=(0,1):=fun k hk=>by rw [hrg];show (if N k=N 0 then sp 0 else if N k=N 1 then sp 1 else (0,1))=_;rw [if_neg (fun z=>absurd (inj z) (by omega)),if_neg (fun z=>absurd (inj z) (by omega))]
 have alo:QG fun i=>rg (N i):=fun i=>by
   show (rg (N i)).1≤(rg (N i)).2
   by_cases e0:i=0
   · subst e0;rw [rg0];exact hok 0
   by_cases e1:i=1
   · subst e1;rw [rg1];exact hok 1
   rw [rgn i (by omega)];decide
 have nR0:R0.nm=N 0:=by rw [eR0]
 have nR1:R1.nm=N 1:=by rw [eR1]
 have nR2:R2.nm=N 2:=by rw [eR2]
 have nR3:R3.nm=N 3:=by rw [eR3]
 have asks:∀ r,jD [(zS,[R0,R1],ws),(zM,[R2],Ib),(zL,[R3],[])] r→r=R0∨r=R1∨r=R2∨r=R3:=fun r hr=>by
   obtain⟨sh,hs,hr⟩:=hr
   simp only [List.mem_cons,List.not_mem_nil,or_false] at hs
   rcases hs with rfl | rfl | rfl
   · simp only [List.mem_cons,List.not_mem_nil,or_false] at hr
     rcases hr with rfl | rfl
     · exact .inl rfl
     · exact .inr (.inl rfl)
   · simp only [List.mem_cons,List.not_mem_nil,or_false] at hr
     exact .inr (.inr (.inl hr))
   · simp only [List.mem_cons,List.not_mem_nil,or_false] at hr
     exact .inr (.inr (.inr hr))
 have hGS:GS N [(zS,[R0,R1],ws),(zM,[R2],Ib),(zL,[R3],[])]:=by
   refine⟨by simp,?_,?_,?_,⟨_,_,(zS,[R0,R1],ws),by simp,by rw [← eR0];exact List.mem_cons_self⟩,⟨(zS,[R0,R1],ws),by simp,by rw [← eR1];simp⟩,⟨_,rfl,by simp [nR0],by simp [nR1]⟩,?_,(show Eo.Nodup by symm)⟩
   · intro sh hs
     simp only [List.mem_cons,List.not_mem_nil,or_false] at hs
     rcases hs with rfl | rfl | rfl
     · show 2≤4;decide
     · show 1≤4;decide
     · show 1≤4;decide
   · intro sh hs
     simp only [List.mem_cons,List.not_mem_nil,or_false] at hs
     rcases hs with rfl | rfl | rfl
     · show ws.length≤4;omega
     · show Ib.length≤4;omega
     · show 0≤4;decide
   · intro r r' hr hr' e
     rcases asks r hr with rfl | rfl | rfl | rfl <;> rcases asks r' hr' with rfl | rfl | rfl | rfl <;> first | rfl | (simp only [nR0,nR1,nR2,nR3] at e;exact absurd (inj e) (by decide))
   · intro i sh hs v hv
     match i,hs with
     | 0,hs=>cases hs;have:=hwv v hv;exact⟨this.1,this.2.1⟩
     | 1,hs=>cases hs;have:=Tj v hv;exact⟨this.1,this.2.1⟩
     | 2,hs=>cases hs;cases hv
     | i+3,hs=>simp at hs
 intro bx hbx
 have b1:=zF hbx (.dT [])
 have BX:(upd UT bx (.dT [])) bx=some (.dT []):=zB
 generalize upd UT bx (HO.dT [])=H22 at b1 BX ⊢
 have abp:=abl.trans b1
 have n22:K8 H22 nl N:=abp _ _ n5
 have abq:=abp _ _ lE
 refine⟨_,rfl,nl,_,_,_,rfl,rfl,b7.of n22,i0,(by show 2≤sizeLine;decide),fun kt0 alp=>?_⟩
 have b2:=zF alp (.tup [.str (N 0),.int 0])
 refine⟨_,rfl,l,_,_,_,rfl,rfl,b7.of (b2 _ _ abq),l0,?_⟩
 refine⟨_,rfl,nl,_,_,_,rfl,rfl,b7.of (b2 _ _ n22),i1,(by show 2≤sizeLine;decide),fun kt1 alq=>?_⟩
 have b3:=zF alq (.tup [.str (N 1),.int 0])
 refine⟨_,rfl,l,_,_,_,rfl,rfl,b7.of (b3 _ _ (b2 _ _ abq)),l1,?_⟩
 have KT0:=b3 _ _ (show (upd H22 kt0 (.tup [.str (N 0),.int 0])) kt0=some (.tup [.str (N 0),.int 0]) from zB)
 have KT1:(upd (upd H22 kt0 (.tup [.str (N 0),.int 0])) kt1 (.tup [.str (N 1),.int 0])) kt1=some (.tup [.str (N 1),.int 0]):=zB
 have b23:=b2.trans b3
 generalize upd (upd H22 kt0 (HO.tup [.str (N 0),.int 0])) kt1 (HO.tup [.str (N 1),.int 0])=H23 at b23 KT0 KT1 ⊢
 refine⟨b23 _ _ BX,[(keyOf (N 0),.ref t0),(keyOf (N 1),.ref t1)],.cons ⟨rfl,kt0,rfl,KT0⟩ (.cons ⟨rfl,kt1,rfl,KT1⟩ .nil),(by show 2≤15;decide),?_⟩
 have abr:=b1.trans b23
 have keep:aB UT (upd H23 bx (.dT (Yp [(keyOf (N 0),.ref t0),(keyOf (N 1),.ref t1)]))):=fun b o e=>by
   rw [zI (zH e hbx)];exact abr _ _ e
 have BX2:(upd H23 bx (.dT (Yp [(keyOf (N 0),.ref t0),(keyOf (N 1),.ref t1)]))) bx=some (.dT (Yp [(keyOf (N 0),.ref t0),(keyOf (N 1),.ref t1)])):=zB
 generalize upd H23 bx (HO.dT (Yp [(keyOf (N 0),.ref t0),(keyOf (N 1),.ref t1)]))=H24 at keep BX2 ⊢
 dsimp only [dH,List.set_cons_succ,List.set_cons_zero]
 have Tn:=abl.trans keep
 have kne:∀ {j k:Nat},j≠k→keyOf (N j)≠keyOf (N k):=fun {j k} h e=>h (inj (Sum.inr.inj (List.cons.inj e).1))
 have val:∀ k,dq (Yp [(keyOf (N 0),V.ref t0),(keyOf (N 1),V.ref t1)]) k=if k=keyOf (N 1) then some (.ref t1) else if k=keyOf (N 0) then some (.ref t0) else none:=fun k=>by
   show dq (putK (putK [] (keyOf (N 0)) (V.ref t0)) (keyOf (N 1)) (V.ref t1)) k=_
   rw [xQ,xQ]
   rfl
 have hBx:BxR H24 bx [(zS,[R0,R1],ws),(zM,[R2],Ib),(zL,[R3],[])] rg:=by
   refine⟨_,BX2,fun r hr=>?_⟩
   rw [val]
   rcases asks r hr with rfl | rfl | rfl | rfl
   · refine .inl ⟨t0,?_,?_⟩
     · rw [nR0,if_neg (kne (by decide)),if_pos rfl]
     · rw [nR0,rg0];exact Tn _ _ t0E
   · refine .inl ⟨t1,?_,?_⟩
     · rw [nR1,if_pos rfl]
     · rw [nR1,rg1];exact Tn _ _ t1E
   · refine .inr ⟨?_,?_⟩
     · rw [nR2,if_neg (kne (by decide)),if_neg (kne (by decide))]
     · rw [nR2,rgn 2 (by decide),eR2]
   · refine .inr ⟨?_,?_⟩
     · rw [nR3,if_neg (kne (by decide)),if_neg (kne (by decide))]
     · rw [nR3,rgn 3 (by decide),eR3]
 have hfin:Fin rg N [(zS,[R0,R1],ws),(zM,[R2],Ib),(zL,[R3],[])] 0 vo (WQ rg N R0 R1 R2 R3 ws Ib):=WR (fun v hv=>(hwv v hv).1) (fun v hv=>(Tj v hv).1)
 have YF:=aa3 rg N R0 R1 R2 R3 ws Ib
 refine⟨_,rfl,_,rfl,N,pa,bx,_,rg,_,rfl,PA.kq (.of keep),hGS,hBx,Tn _ _ hT5,hfin,fun x H25 Uk hR=>?_⟩
 have M8:=Tn.trans Uk
 refine⟨_,rfl,_,rfl,_,rfl,_,rfl,nl,wl,mo,l,ys,Q7,rg,N,fun i=>rg (N i),ws,Ib,R0,R1,R2,R3,rfl,M8 _ _ n5,M8 _ _ hW5,zJ aa5 fun _ _=>sy.kq (.of M8),fun v hv=>(hwv v hv).2.2,by omega,((abm.trans keep).trans Uk) _ _ hM6,zJ W2 fun _ _=>sy.kq (.of ((abm.trans keep).trans Uk)),fun v hv=>(Tj v hv).2.2,by omega,⟨t0,t1,M8 _ _ lE,by show _=some (HO.tup [V.int (rg (N 0)).1,V.int (rg (N 0)).2]);rw [rg0];exact M8 _ _ t0E,by show _=some (HO.tup [V.int (rg (N 1)).1,V.int (rg (N 1)).2]);rw [rg1];exact M8 _ _ t1E⟩,alo,fun _=>rfl,nR0,nR1,nR2,nR3,fun y H26 s26 hR2=>?_⟩
 exact⟨x,y,_,3,rfl,by decide,Lb (hR.same s26) YF.1 YF.2.1 YF.2.2,Lb hR2 YF.1 YF.2.1 YF.2.2,fun H' _=>q H'⟩
end
end jB
set_option maxHeartbeats 4000000
namespace jB
open PySem L2
theorem Kp {us:List Value}{n:Nat} (h:us.length=n+1):∃ a r,us=a::r∧r.length=n:=by
 cases us with
 | nil=>cases h
 | cons a r=>exact⟨a,r,rfl,Nat.succ.inj h⟩
theorem el0 {us:List Value} (h:us.length=0):us=[]:=List.eq_nil_of_length_eq_zero h
@[elab_as_elim] theorem Tp {motive:List Value→Prop} (us:List Value) (hl:us.length=1) (h:∀ a,motive [a]):motive us:=by
 obtain⟨a,r0,e0,h0⟩:=Kp hl
 rw [e0,el0 h0]
 exact h a
@[elab_as_elim] theorem wM {motive:List Value→Prop} (us:List Value) (hl:us.length=2) (h:∀ a b,motive [a,b]):motive us:=by
 obtain⟨a,r0,e0,h0⟩:=Kp hl
 obtain⟨b,r1,e1,h1⟩:=Kp h0
 rw [e0,e1,el0 h1]
 exact h a b
@[elab_as_elim] theorem Kr {motive:List Value→Prop} (us:List Value) (hl:us.length=3) (h:∀ a b c,motive [a,b,c]):motive us:=by
 obtain⟨a,r0,e0,h0⟩:=Kp hl
 obtain⟨b,r1,e1,h1⟩:=Kp h0
 obtain⟨c,r2,e2,h2⟩:=Kp h1
 rw [e0,e1,e2,el0 h2]
 exact h a b c
@[elab_as_elim] theorem Tq {motive:List Value→Prop} (us:List Value) (hl:us.length=4) (h:∀ a b c d,motive [a,b,c,d]):motive us:=by
 obtain⟨a,r0,e0,h0⟩:=Kp hl
 obtain⟨b,r1,e1,h1⟩:=Kp h0
 obtain⟨c,r2,e2,h2⟩:=Kp h1
 obtain⟨d,r3,e3,h3⟩:=Kp h2
 rw [e0,e1,e2,e3,el0 h3]
 exact h a b c d
@[elab_as_elim] theorem el5 {motive:List Value→Prop} (us:List Value) (hl:us.length=5) (h:∀ a b c d e,motive [a,b,c,d,e]):motive us:=by
 obtain⟨a,r0,e0,h0⟩:=Kp hl
 obtain⟨b,r1,e1,h1⟩:=Kp h0
 obtain⟨c,r2,e2,h2⟩:=Kp h1
 obtain⟨d,r3,e3,h3⟩:=Kp h2
 obtain⟨e,r4,e4,h4⟩:=Kp h3
 rw [e0,e1,e2,e3,e4,el0 h4]
 exact h a b c d e
theorem Xb {K:W.Frag}{h:Heap}{mg:Str→Option Value} (X:K.In h) (G:h.Ns mainGlobals mg)
{f0 f1 f2 f3 f4 f5 f6 dT6 f7 f8 f9 f10 f11 f12 YG YH YJ YK YL YM YQ YS f21 f22 Q8 YT Xc YW YX YZ Y0 Y4 Y5 Y6 Y7 Y8 Y9 Za f36 f37 f38 Zb Zc Zd Ze Zf Zg Zh f46 f47 f48 f49 f50 f51 f52 f53 f54 f55 f56 f57 f58:Addr}{od0 an0 od1 an1 od2 an2 od3 an3 od4 an4 od5 an5 od6 an6 dD6 od7 an7 od8 an8 od9 an9 alv abw alw abx alx aby aly abz alz abA alA abB alB abC alC abD alD abE alE abF alF abG alG abH alH abI alI abJ alJ abK alK alL abL alM abM alN abN alO abO alP abP alQ abQ alR abR alS abS alT abT alU abU alV abV alW abW alX abX alY abY alZ abZ al0 ab0 al1 ab1 al2 ab2 al3 ab3 al4 ab4 al5 ab5 al6 ab6 al7 ab7 al8 ab8 al9 ab9 ama aca amb acb amc acd amd ace ame acf amf acg amg ach amh aci ami acj:Option Addr}{sl0 sl1 sl2 sl3 sl4 sl5 sl6 dS6 sl7 sl8 sl9 amj amk aml amm amn amo amq amr ams amt amu amv amw amx amy amz amA amB amC amD amE amF amG amH amI amJ amK amL amM amN amO amP amQ amR amS amT amU amV amW amX amY amZ am0 am1 am2 am3 am4 am5 am6 am7:Array (Option Value)}{oc0 kV0 dc0 pm0 cd0 ct0 oc1 kV1 dc1 pm1 cd1 ct1 oc2 kV2 dc2 pm2 cd2 ct2 oc3 kV3 dc3 pm3 cd3 ct3 oc4 kV4 dc4 pm4 cd4 ct4 oc5 kV5 dc5 pm5 cd5 ct5 oc6 kV6 dc6 pm6 cd6 ct6 oc7 kV7 dc7 pm7 cd7 ct7 oc8 kV8 dc8 pm8 cd8 ct8 oc9 kV9 dc9 pm9 cd9 ct9 anj ack acn aco Xd acp ank acq acr acs Xe acu anl acv acw acx Xf acy anm acz acA acB Xg acC ano acD acE acF Xh acG anp acH acI acJ Xi acK anq acL acM acN Xj acO anr acP acQ acR Xk acS ant acT acU acV Xl acW anu acX acY acZ Xm ac0 anv ac1 ac2 ac3 Xn ac4 anw ac5 ac6 ac7 Xo ac8 anx ac9 ada adb Xp ade anz adf adg adh Xq adi anA adk adl adm Xr adn anB ado adp adq Xu adt anC adu adv adw Xv adx anD ady adz adA Xw adB anE adC adD adE Xx adF anF adG adH adI Xy adJ anG adK adL adM Xz adN anH adO adP adQ XC adR anI adS adT adU XD adV anJ adW adX adY XF adZ anK ad0 ad1 ad2 XH ad3 anL ad4 ad5 ad6 XJ ad7 anM ad8 ad9 aea XM aeb anN aec aed aee XN aef anO aeg aeh aei XQ aej anP aek ael aem XR aen anQ aeo aep aeq XS aer anR aes aet aeu XX aev anS aew aex aey X3 aez anT aeA aeB aeC X4 aeD anU aeE aeF aeG Tt aeH anV aeI aeJ aeK X5 aeL anW aeM aeN aeO X6 aeP anY aeQ aeR aeS X7 aeT anZ aeU aeV aeW X8 aeX aoa aeY aeZ ae0 Yb ae1 aob ae2 ae3 ae4 Yc ae5 aoc ae6 ae7 ae8 Yd ae9 aod afa afb afc Ye afd aoe afe afg afh Yg afi aof afj afk afl Yh afm aog afn afo afp Yi afq aoh afr afs aft Yj afu aoi afv afw afx Yk afy aoj afz afA afB Yl afC:Value}{dN6 aok:Nat}
 {ga0:Addr}{go0:Value}{gd0:Option Addr}{gn0:Nat}{ge0:Array DictEntry}{gs0:Array (Option Value)}
{lB aC bu d9 jm vz qm iu fu vA CK Ai eE dN cz mc mP:Addr}{afD QW Tu:ClassData}{mt:Value}{mod:Option Addr}{mvs:Array Value}{msl:Array (Option Value)}
 (h74:W.nsIn K mainGlobals "Ask" = some (some (.ref lB)))
 (h75:W.nsIn K mainGlobals "ByBox" = some (some (.ref aC)))
 (h76:W.nsIn K mainGlobals "Compare" = some (some (.ref bu)))
 (h77:W.nsIn K mainGlobals "Going" = some (some (.ref d9)))
 (h78:W.nsIn K mainGlobals "Is" = some (some (.ref jm)))
 (h79:W.nsIn K mainGlobals "Kind" = some (some (.ref vz)))
 (h7a:W.nsIn K mainGlobals "Names" = some (some (.ref qm)))
 (h7b:W.nsIn K mainGlobals "Not" = some (some (.ref iu)))
 (h7c:W.nsIn K mainGlobals "Paper" = some (some (.ref fu)))
 (h7d:W.nsIn K mainGlobals "Pick" = some (some (.ref vA)))
 (h7e:W.nsIn K mainGlobals "Row" = some (some (.ref CK)))
 (h7f:W.nsIn K mainGlobals "Saying" = some (some (.ref Ai)))
 (h7g:W.nsIn K mainGlobals "Sheet" = some (some (.ref eE)))
 (h7h:W.nsIn K mainGlobals "Whole" = some (some (.ref dN)))
 (h7i:W.nsIn K mainGlobals "YesNo" = some (some (.ref cz)))
 (h00:W.findIn K (.ref vz) "__init__" = some (some (.ref f0)))
 (h01:K.lookup f0=some ⟨oc0,od0,.func (W.fnOf "__init__" "Kind.__init__" (ak bJ) (aj bJ) (aa bJ) .none kV0 dc0 pm0 an0 cd0 ct0),sl0⟩)
 (h02:W.codeIn K cd0 "Kind.__init__" = true)
 (h03:W.keepIn K (.ref f0)=true)
 (h04:W.findIn K (.ref cz) "__init__" = some (some (.ref f1)))
 (h05:K.lookup f1=some ⟨oc1,od1,.func (W.fnOf "__init__" "YesNo.__init__" (ak bC) (aj bC) (aa bC) .none kV1 dc1 pm1 an1 cd1 ct1),sl1⟩)
 (h06:W.codeIn K cd1 "YesNo.__init__" = true)
 (h07:W.keepIn K (.ref f1)=true)
 (h08:W.findIn K (.ref cz) "fits" = some (some (.ref f2)))
 (h09:K.lookup f2=some ⟨oc2,od2,.func (W.fnOf "fits" "YesNo.fits" (ak bN) (aj bN) (aa bN) .none kV2 dc2 pm2 an2 cd2 ct2),sl2⟩)
 (h0a:W.codeIn K cd2 "YesNo.fits" = true)
 (h0b:W.keepIn K (.ref f2)=true)
 (h0c:W.findIn K (.ref cz) "answer_of" = some (some (.ref f3)))
 (h0d:K.lookup f3=some ⟨oc3,od3,.func (W.fnOf "answer_of" "YesNo.answer_of" (ak aN) (aj aN) (aa aN) .none kV3 dc3 pm3 an3 cd3 ct3),sl3⟩)
 (h0e:W.codeIn K cd3 "YesNo.answer_of" = true)
 (h0f:W.keepIn K (.ref f3)=true)
 (h0g:W.findIn K (.ref cz) "rank" = some (some (.ref f4)))
 (h0h:K.lookup f4=some ⟨oc4,od4,.func (W.fnOf "rank" "YesNo.rank" (ak bO) (aj bO) (aa bO) .none kV4 dc4 pm4 an4 cd4 ct4),sl4⟩)
 (h0i:W.codeIn K cd4 "YesNo.rank" = true)
 (h0j:W.keepIn K (.ref f4)=true)
 (h0k:W.findIn K (.ref CK) "__init__" = some (some (.ref f5)))
 (h0l:K.lookup f5=some ⟨oc5,od5,.func (W.fnOf "__init__" "Row.__init__" (ak bQ) (aj bQ) (aa bQ) .none kV5 dc5 pm5 an5 cd5 ct5),sl5⟩)
 (h0m:W.codeIn K cd5 "Row.__init__" = true)
 (h0n:W.keepIn K (.ref f5)=true)
 (h0o:W.findIn K (.ref lB) "__init__" = some (some (.ref f6)))
 (h0p:K.lookup f6=some ⟨oc6,od6,.func (W.fnOf "__init__" "Ask.__init__" (ak bR) (aj bR) (aa bR) (.ref dT6) kV6 dc6 pm6 an6 cd6 ct6),sl6⟩)
 (h0q:W.codeIn K cd6 "Ask.__init__" = true)
 (h0r:W.keepIn K (.ref f6)=true)
 (h0s:K.lookup dT6=some ⟨.type "tuple",dD6,.seq ([.none]:List Value).toArray dN6,dS6⟩)
 (h0t:W.findIn K (.ref eE) "__init__" = some (some (.ref f7)))
 (h0u:K.lookup f7=some ⟨oc7,od7,.func (W.fnOf "__init__" "Sheet.__init__" (ak bD) (aj bD) (aa bD) .none kV7 dc7 pm7 an7 cd7 ct7),sl7⟩)
 (h0v:W.codeIn K cd7 "Sheet.__init__" = true)
 (h0w:W.keepIn K (.ref f7)=true)
 (h0x:W.findIn K (.ref fu) "__init__" = some (some (.ref f8)))
 (h0y:K.lookup f8=some ⟨oc8,od8,.func (W.fnOf "__init__" "Paper.__init__" (ak bF) (aj bF) (aa bF) .none kV8 dc8 pm8 an8 cd8 ct8),sl8⟩)
 (h0z:W.codeIn K cd8 "Paper.__init__" = true)
 (h10:W.keepIn K (.ref f8)=true)
 (h11:W.nsIn K mainGlobals "kinds_of" = some (some (.ref f9)))
 (h12:K.lookup f9=some ⟨oc9,od9,.func (W.fnOf "kinds_of" "kinds_of" (ak dw) (aj dw) (aa dw) .none kV9 dc9 pm9 an9 cd9 ct9),sl9⟩)
 (h13:W.codeIn K cd9 "kinds_of" = true)
 (h14:W.keepIn K (.ref f9)=true)
 (h15:W.nsIn K mainGlobals "eaches_of" = some (some (.ref f10)))
 (h16:K.lookup f10=some ⟨anj,alv,.func (W.fnOf "eaches_of" "eaches_of" (ak cT) (aj cT) (aa cT) .none ack acn aco abw Xd acp),amj⟩)
 (h17:W.codeIn K Xd "eaches_of" = true)
 (h18:W.keepIn K (.ref f10)=true)
 (h19:W.nsIn K mainGlobals "all_together" = some (some (.ref f11)))
 (h1a:K.lookup f11=some ⟨ank,alw,.func (W.fnOf "all_together" "all_together" (ak bT) (aj bT) (aa bT) .none acq acr acs abx Xe acu),amk⟩)
 (h1b:W.codeIn K Xe "all_together" = true)
 (h1c:W.keepIn K (.ref f11)=true)
 (h1d:W.findIn K (.ref d9) "__init__" = some (some (.ref f12)))
 (h1e:K.lookup f12=some ⟨anl,alx,.func (W.fnOf "__init__" "Going.__init__" (ak bG) (aj bG) (aa bG) .none acv acw acx aby Xf acy),aml⟩)
 (h1f:W.codeIn K Xf "Going.__init__" = true)
 (h1g:W.keepIn K (.ref f12)=true)
 (h1h:W.findIn K (.ref d9) "note" = some (some (.ref YG)))
 (h1i:K.lookup YG=some ⟨anm,aly,.func (W.fnOf "note" "Going.note" (ak bU) (aj bU) (aa bU) .none acz acA acB abz Xg acC),amm⟩)
 (h1j:W.codeIn K Xg "Going.note" = true)
 (h1k:W.keepIn K (.ref YG)=true)
 (h1l:W.findIn K (.ref d9) "own_thing" = some (some (.ref YH)))
 (h1m:K.lookup YH=some ⟨ano,alz,.func (W.fnOf "own_thing" "Going.own_thing" (ak aO) (aj aO) (aa aO) .none acD acE acF abA Xh acG),amn⟩)
 (h1n:W.codeIn K Xh "Going.own_thing" = true)
 (h1o:W.keepIn K (.ref YH)=true)
 (h1p:W.findIn K (.ref d9) "known_of" = some (some (.ref YJ)))
 (h1q:K.lookup YJ=some ⟨anp,alA,.func (W.fnOf "known_of" "Going.known_of" (ak aY) (aj aY) (aa aY) .none acH acI acJ abB Xi acK),amo⟩)
 (h1r:W.codeIn K Xi "Going.known_of" = true)
 (h1s:W.keepIn K (.ref YJ)=true)
 (h1t:W.findIn K (.ref d9) "stop_with" = some (some (.ref YK)))
 (h1u:K.lookup YK=some ⟨anq,alB,.func (W.fnOf "stop_with" "Going.stop_with" (ak aP) (aj aP) (aa aP) .none acL acM acN abC Xj acO),amq⟩)
 (h1v:W.codeIn K Xj "Going.stop_with" = true)
 (h1w:W.keepIn K (.ref YK)=true)
 (h1x:W.findIn K (.ref d9) "go_through" = some (some (.ref YL)))
 (h1y:K.lookup YL=some ⟨anr,alC,.func (W.fnOf "go_through" "Going.go_through" (ak aJ) (aj aJ) (aa aJ) .none acP acQ acR abD Xk acS),amr⟩)
 (h1z:W.codeIn K Xk "Going.go_through" = true)
 (h20:W.keepIn K (.ref YL)=true)
 (h21:W.findIn K (.ref d9) "targets_of" = some (some (.ref YM)))
 (h22:K.lookup YM=some ⟨ant,alD,.func (W.fnOf "targets_of" "Going.targets_of" (ak aK) (aj aK) (aa aK) .none acT acU acV abE Xl acW),ams⟩)
 (h23:W.codeIn K Xl "Going.targets_of" = true)
 (h24:W.keepIn K (.ref YM)=true)
 (h25:W.findIn K (.ref d9) "leave" = some (some (.ref YQ)))
 (h26:K.lookup YQ=some ⟨anu,alE,.func (W.fnOf "leave" "Going.leave" (ak bK) (aj bK) (aa bK) .none acX acY acZ abF Xm ac0),amt⟩)
 (h27:W.codeIn K Xm "Going.leave" = true)
 (h28:W.keepIn K (.ref YQ)=true)
 (h29:W.findIn K (.ref d9) "go" = some (some (.ref YS)))
 (h2a:K.lookup YS=some ⟨anv,alF,.func (W.fnOf "go" "Going.go" (ak cD) (aj cD) (aa cD) .none ac1 ac2 ac3 abG Xn ac4),amu⟩)
 (h2b:W.codeIn K Xn "Going.go" = true)
 (h2c:W.keepIn K (.ref YS)=true)
 (h2d:W.nsIn K mainGlobals "compares" = some (some (.ref f21)))
 (h2e:K.lookup f21=some ⟨anw,alG,.func (W.fnOf "compares" "compares" (ak dB) (aj dB) (aa dB) .none ac5 ac6 ac7 abH Xo ac8),amv⟩)
 (h2f:W.codeIn K Xo "compares" = true)
 (h2g:W.keepIn K (.ref f21)=true)
 (h2h:W.nsIn K mainGlobals "surely_compares" = some (some (.ref f22)))
 (h2i:K.lookup f22=some ⟨anx,alH,.func (W.fnOf "surely_compares" "surely_compares" (ak bz) (aj bz) (aa bz) .none ac9 ada adb abI Xp ade),amw⟩)
 (h2j:W.codeIn K Xp "surely_compares" = true)
 (h2k:W.keepIn K (.ref f22)=true)
 (h2l:W.findIn K (.ref Ai) "first_open" = some (some (.ref Q8)))
 (h2m:K.lookup Q8=some ⟨anz,alI,.func (W.fnOf "first_open" "Saying.first_open" (ak aD) (aj aD) (aa aD) .none adf adg adh abJ Xq adi),amx⟩)
 (h2n:W.codeIn K Xq "Saying.first_open" = true)
 (Ym:W.keepIn K (.ref Q8)=true)
 (h2p:W.findIn K (.ref jm) "__init__" = some (some (.ref YT)))
 (h2q:K.lookup YT=some ⟨anA,alJ,.func (W.fnOf "__init__" "Is.__init__" (ak bV) (aj bV) (aa bV) (.ref Xc) adk adl adm abK Xr adn),amy⟩)
 (h2r:W.codeIn K Xr "Is.__init__" = true)
 (h2s:W.keepIn K (.ref YT)=true)
 (h2t:K.lookup Xc=some ⟨.type "tuple",alK,.seq ([.none]:List Value).toArray aok,amz⟩)
 (h2u:W.findIn K (.ref jm) "atoms" = some (some (.ref YW)))
 (h2v:K.lookup YW=some ⟨anB,alL,.func (W.fnOf "atoms" "Is.atoms" (ak cF) (aj cF) (aa cF) .none ado adp adq abL Xu adt),amA⟩)
 (h2w:W.codeIn K Xu "Is.atoms" = true)
 (h2x:W.keepIn K (.ref YW)=true)
 (h2y:W.findIn K (.ref jm) "settled" = some (some (.ref YX)))
 (h2z:K.lookup YX=some ⟨anC,alM,.func (W.fnOf "settled" "Is.settled" (ak bW) (aj bW) (aa bW) .none adu adv adw abM Xv adx),amB⟩)
 (h30:W.codeIn K Xv "Is.settled" = true)
 (h31:W.keepIn K (.ref YX)=true)
 (h32:W.findIn K (.ref jm) "sure" = some (some (.ref YZ)))
 (h33:K.lookup YZ=some ⟨anD,alN,.func (W.fnOf "sure" "Is.sure" (ak cU) (aj cU) (aa cU) .none ady adz adA abN Xw adB),amC⟩)
 (h34:W.codeIn K Xw "Is.sure" = true)
 (h35:W.keepIn K (.ref YZ)=true)
 (h36:W.findIn K (.ref bu) "__init__" = some (some (.ref Y0)))
 (h37:K.lookup Y0=some ⟨anE,alO,.func (W.fnOf "__init__" "Compare.__init__" (ak aZ) (aj aZ) (aa aZ) .none adC adD adE abO Xx adF),amD⟩)
 (h38:W.codeIn K Xx "Compare.__init__" = true)
 (h39:W.keepIn K (.ref Y0)=true)
 (h3a:W.findIn K (.ref bu) "atoms" = some (some (.ref Y4)))
 (h3b:K.lookup Y4=some ⟨anF,alP,.func (W.fnOf "atoms" "Compare.atoms" (ak bA) (aj bA) (aa bA) .none adG adH adI abP Xy adJ),amE⟩)
 (h3c:W.codeIn K Xy "Compare.atoms" = true)
 (h3d:W.keepIn K (.ref Y4)=true)
 (h3e:W.findIn K (.ref bu) "settled" = some (some (.ref Y5)))
 (h3f:K.lookup Y5=some ⟨anG,alQ,.func (W.fnOf "settled" "Compare.settled" (ak aQ) (aj aQ) (aa aQ) .none adK adL adM abQ Xz adN),amF⟩)
 (h3g:W.codeIn K Xz "Compare.settled" = true)
 (h3h:W.keepIn K (.ref Y5)=true)
 (h3i:W.findIn K (.ref bu) "sure" = some (some (.ref Y6)))
 (h3j:K.lookup Y6=some ⟨anH,alR,.func (W.fnOf "sure" "Compare.sure" (ak bH) (aj bH) (aa bH) .none adO adP adQ abR XC adR),amG⟩)
 (h3k:W.codeIn K XC "Compare.sure" = true)
 (h3l:W.keepIn K (.ref Y6)=true)
 (h3m:W.findIn K (.ref iu) "__init__" = some (some (.ref Y7)))
 (h3n:K.lookup Y7=some ⟨anI,alS,.func (W.fnOf "__init__" "Not.__init__" (ak bY) (aj bY) (aa bY) .none adS adT adU abS XD adV),amH⟩)
 (h3o:W.codeIn K XD "Not.__init__" = true)
 (h3p:W.keepIn K (.ref Y7)=true)
 (h3q:W.findIn K (.ref iu) "atoms" = some (some (.ref Y8)))
 (h3r:K.lookup Y8=some ⟨anJ,alT,.func (W.fnOf "atoms" "Not.atoms" (ak cg) (aj cg) (aa cg) .none adW adX adY abT XF adZ),amI⟩)
 (h3s:W.codeIn K XF "Not.atoms" = true)
 (h3t:W.keepIn K (.ref Y8)=true)
 (h3u:W.findIn K (.ref iu) "settled" = some (some (.ref Y9)))
 (h3v:K.lookup Y9=some ⟨anK,alU,.func (W.fnOf "settled" "Not.settled" (ak bL) (aj bL) (aa bL) .none ad0 ad1 ad2 abU XH ad3),amJ⟩)
 (h3w:W.codeIn K XH "Not.settled" = true)
 (h3x:W.keepIn K (.ref Y9)=true)
 (h3y:W.findIn K (.ref iu) "sure" = some (some (.ref Za)))
 (h3z:K.lookup Za=some ⟨anL,alV,.func (W.fnOf "sure" "Not.sure" (ak cG) (aj cG) (aa cG) .none ad4 ad5 ad6 abV XJ ad7),amK⟩)
 (h40:W.codeIn K XJ "Not.sure" = true)
 (h41:W.keepIn K (.ref Za)=true)
 (h42:W.nsIn K mainGlobals "range_in" = some (some (.ref f36)))
 (h43:K.lookup f36=some ⟨anM,alW,.func (W.fnOf "range_in" "range_in" (ak dC) (aj dC) (aa dC) .none ad8 ad9 aea abW XM aeb),amL⟩)
 (h44:W.codeIn K XM "range_in" = true)
 (h45:W.keepIn K (.ref f36)=true)
 (h46:W.nsIn K mainGlobals "cut_out" = some (some (.ref f37)))
 (h47:K.lookup f37=some ⟨anN,alX,.func (W.fnOf "cut_out" "cut_out" (ak dU) (aj dU) (aa dU) .none aec aed aee abX XN aef),amM⟩)
 (h48:W.codeIn K XN "cut_out" = true)
 (h49:W.keepIn K (.ref f37)=true)
 (h4a:W.nsIn K mainGlobals "cut_of" = some (some (.ref f38)))
 (h4b:K.lookup f38=some ⟨anO,alY,.func (W.fnOf "cut_of" "cut_of" (ak fQ) (aj fQ) (aa fQ) .none aeg aeh aei abY XQ aej),amN⟩)
 (h4c:W.codeIn K XQ "cut_of" = true)
 (h4d:W.keepIn K (.ref f38)=true)
 (h4e:W.findIn K (.ref aC) "__init__" = some (some (.ref Zb)))
 (h4f:K.lookup Zb=some ⟨anP,alZ,.func (W.fnOf "__init__" "ByBox.__init__" (ak bI) (aj bI) (aa bI) .none aek ael aem abZ XR aen),amO⟩)
 (h4g:W.codeIn K XR "ByBox.__init__" = true)
 (h4h:W.keepIn K (.ref Zb)=true)
 (h4i:W.findIn K (.ref aC) "split_at" = some (some (.ref Zc)))
 (h4j:K.lookup Zc=some ⟨anQ,al0,.func (W.fnOf "split_at" "ByBox.split_at" (ak bc) (aj bc) (aa bc) .none aeo aep aeq ab0 XS aer),amP⟩)
 (h4k:W.codeIn K XS "ByBox.split_at" = true)
 (h4l:W.keepIn K (.ref Zc)=true)
 (h4m:W.findIn K (.ref aC) "things_of" = some (some (.ref Zd)))
 (h4n:K.lookup Zd=some ⟨anR,al1,.func (W.fnOf "things_of" "ByBox.things_of" (ak aR) (aj aR) (aa aR) .none aes aet aeu ab1 XX aev),amQ⟩)
 (h4o:W.codeIn K XX "ByBox.things_of" = true)
 (h4p:W.keepIn K (.ref Zd)=true)
 (h4q:W.findIn K (.ref aC) "put" = some (some (.ref Ze)))
 (h4r:K.lookup Ze=some ⟨anS,al2,.func (W.fnOf "put" "ByBox.put" (ak cj) (aj cj) (aa cj) .none aew aex aey ab2 X3 aez),amR⟩)
 (h4s:W.codeIn K X3 "ByBox.put" = true)
 (h4t:W.keepIn K (.ref Ze)=true)
 (h4u:W.findIn K (.ref aC) "span_of" = some (some (.ref Zf)))
 (h4v:K.lookup Zf=some ⟨anT,al3,.func (W.fnOf "span_of" "ByBox.span_of" (ak bB) (aj bB) (aa bB) .none aeA aeB aeC ab3 X4 aeD),amS⟩)
 (h4w:W.codeIn K X4 "ByBox.span_of" = true)
 (h4x:W.keepIn K (.ref Zf)=true)
 (h4y:W.findIn K (.ref aC) "is_so" = some (some (.ref Zg)))
 (h4z:K.lookup Zg=some ⟨anU,al4,.func (W.fnOf "is_so" "ByBox.is_so" (ak aG) (aj aG) (aa aG) .none aeE aeF aeG ab4 Tt aeH),amT⟩)
 (h50:W.codeIn K Tt "ByBox.is_so" = true)
 (h51:W.keepIn K (.ref Zg)=true)
 (h52:W.findIn K (.ref aC) "split_by" = some (some (.ref Zh)))
 (h53:K.lookup Zh=some ⟨anV,al5,.func (W.fnOf "split_by" "ByBox.split_by" (ak bf) (aj bf) (aa bf) .none aeI aeJ aeK ab5 X5 aeL),amU⟩)
 (h54:W.codeIn K X5 "ByBox.split_by" = true)
 (h55:W.keepIn K (.ref Zh)=true)
 (h56:W.nsIn K mainGlobals "going_by" = some (some (.ref f46)))
 (h57:K.lookup f46=some ⟨anW,al6,.func (W.fnOf "going_by" "going_by" (ak dD) (aj dD) (aa dD) .none aeM aeN aeO ab6 X6 aeP),amV⟩)
 (h58:W.codeIn K X6 "going_by" = true)
 (h59:W.keepIn K (.ref f46)=true)
 (h5a:W.nsIn K mainGlobals "_law_cell" = some (some (.ref f47)))
 (h5b:K.lookup f47=some ⟨anY,al7,.func (W.fnOf "_law_cell" "_law_cell" (ak dF) (aj dF) (aa dF) .none aeQ aeR aeS ab7 X7 aeT),amW⟩)
 (h5c:W.codeIn K X7 "_law_cell" = true)
 (h5d:W.keepIn K (.ref f47)=true)
 (h5e:W.nsIn K mainGlobals "_law_name" = some (some (.ref f48)))
 (h5f:K.lookup f48=some ⟨anZ,al8,.func (W.fnOf "_law_name" "_law_name" (ak dG) (aj dG) (aa dG) .none aeU aeV aeW ab8 X8 aeX),amX⟩)
 (h5g:W.codeIn K X8 "_law_name" = true)
 (h5h:W.keepIn K (.ref f48)=true)
 (h5i:W.nsIn K mainGlobals "_law_three" = some (some (.ref f49)))
 (h5j:K.lookup f49=some ⟨aoa,al9,.func (W.fnOf "_law_three" "_law_three" (ak cV) (aj cV) (aa cV) .none aeY aeZ ae0 ab9 Yb ae1),amY⟩)
 (h5k:W.codeIn K Yb "_law_three" = true)
 (h5l:W.keepIn K (.ref f49)=true)
 (h5m:W.nsIn K mainGlobals "_law_cut" = some (some (.ref f50)))
 (h5n:K.lookup f50=some ⟨aob,ama,.func (W.fnOf "_law_cut" "_law_cut" (ak dW) (aj dW) (aa dW) .none ae2 ae3 ae4 aca Yc ae5),amZ⟩)
 (h5o:W.codeIn K Yc "_law_cut" = true)
 (h5p:W.keepIn K (.ref f50)=true)
 (h5q:W.nsIn K mainGlobals "_law_alike" = some (some (.ref f51)))
 (h5r:K.lookup f51=some ⟨aoc,amb,.func (W.fnOf "_law_alike" "_law_alike" (ak cW) (aj cW) (aa cW) .none ae6 ae7 ae8 acb Yd ae9),am0⟩)
 (h5s:W.codeIn K Yd "_law_alike" = true)
 (h5t:W.keepIn K (.ref f51)=true)
 (h5u:W.nsIn K mainGlobals "_law_spans" = some (some (.ref f52)))
 (h5v:K.lookup f52=some ⟨aod,amc,.func (W.fnOf "_law_spans" "_law_spans" (ak cX) (aj cX) (aa cX) .none afa afb afc acd Ye afd),am1⟩)
 (h5w:W.codeIn K Ye "_law_spans" = true)
 (h5x:W.keepIn K (.ref f52)=true)
 (h5y:W.nsIn K mainGlobals "_law_way" = some (some (.ref f53)))
 (h5z:K.lookup f53=some ⟨aoe,amd,.func (W.fnOf "_law_way" "_law_way" (ak dX) (aj dX) (aa dX) .none afe afg afh ace Yg afi),am2⟩)
 (h60:W.codeIn K Yg "_law_way" = true)
 (h61:W.keepIn K (.ref f53)=true)
 (h62:W.nsIn K mainGlobals "_law_spoken" = some (some (.ref f54)))
 (h63:K.lookup f54=some ⟨aof,ame,.func (W.fnOf "_law_spoken" "_law_spoken" (ak cH) (aj cH) (aa cH) .none afj afk afl acf Yh afm),am3⟩)
 (h64:W.codeIn K Yh "_law_spoken" = true)
 (h65:W.keepIn K (.ref f54)=true)
 (h66:W.nsIn K mainGlobals "_law_known" = some (some (.ref f55)))
 (h67:K.lookup f55=some ⟨aog,amf,.func (W.fnOf "_law_known" "_law_known" (ak cY) (aj cY) (aa cY) .none afn afo afp acg Yi afq),am4⟩)
 (h68:W.codeIn K Yi "_law_known" = true)
 (h69:W.keepIn K (.ref f55)=true)
 (h6a:W.nsIn K mainGlobals "_law_led" = some (some (.ref f56)))
 (h6b:K.lookup f56=some ⟨aoh,amg,.func (W.fnOf "_law_led" "_law_led" (ak dY) (aj dY) (aa dY) .none afr afs aft ach Yj afu),am5⟩)
 (h6c:W.codeIn K Yj "_law_led" = true)
 (h6d:W.keepIn K (.ref f56)=true)
 (h6e:W.nsIn K mainGlobals "_law_going" = some (some (.ref f57)))
 (h6f:K.lookup f57=some ⟨aoi,amh,.func (W.fnOf "_law_going" "_law_going" (ak cZ) (aj cZ) (aa cZ) .none afv afw afx aci Yk afy),am6⟩)
 (h6g:W.codeIn K Yk "_law_going" = true)
 (h6h:W.keepIn K (.ref f57)=true)
 (h6i:W.nsIn K mainGlobals "law" = some (some (.ref f58)))
 (h6j:K.lookup f58=some ⟨aoj,ami,.func (W.fnOf "law" "law" (ak tu) (aj tu) (aa tu) .none afz afA afB acj Yl afC),am7⟩)
 (h6k:W.codeIn K Yl "law" = true)
 (h6l:W.keepIn K (.ref f58)=true)
 (h6m:W.nsIn K mainGlobals "WRITTEN_TRUTHS" = some (some (.ref ga0)))
 (h6n:K.lookup ga0=some ⟨go0,gd0,.dict ge0 gn0,gs0⟩)
 (h6o:(ga0 == sysModules)=false)
 (h6p:go0=.type "dict")
 (h6q:gd0=none)
 (h6r:gs0=#[])
 (h6s:PyProof.Rows.KTD.Rows (fun (b:Bool) (v:Value)=>v=.bool b) ge0.toList [("yes",true),("no",false)])
 (h6t:W.nsIn K mainGlobals "all" = some none)
 (h6u:W.nsIn K mainGlobals "any" = some none)
 (h6v:W.nsIn K mainGlobals "bool" = some none)
 (h6w:W.nsIn K mainGlobals "dict" = some none)
 (h6x:W.nsIn K mainGlobals "int" = some none)
 (h6y:W.nsIn K mainGlobals "isinstance" = some none)
 (h6z:W.nsIn K mainGlobals "len" = some none)
 (h70:W.nsIn K mainGlobals "list" = some none)
 (h71:W.nsIn K mainGlobals "range" = some none)
 (h72:W.nsIn K mainGlobals "str" = some none)
 (h73:W.nsIn K mainGlobals "tuple" = some none)
 (h7j:W.clsIn K jm=some afD)
 (h7k:W.typeIn K (.ref jm)=some (.type "type"))
 (h7l:W.clsIn K qm=some QW)
 (h7m:W.typeIn K (.ref qm)=some (.type "type"))
 (h7n:W.clsIn K vA=some Tu)
 (h7o:W.typeIn K (.ref vA)=some (.type "type"))
 (h7p:W.mroIn K cz (.ref vA)=some false)
 (h7q:(Value.ref cz == Value.ref vA)=false)
 (h7r:W.mroIn K dN (.ref qm)=some false)
 (h7s:(Value.ref dN == Value.ref qm)=false)
 (h7t:W.mroIn K bu (.ref jm)=some false)
 (h7u:(Value.ref bu == Value.ref jm)=false)
 (h7v:W.plainGet K cz Str.empty=true)
 (h7w:W.hasDictIn K cz=true)
 (h7x:W.plainOver K cz=true)
 (h7y:W.findIn K (.ref cz) "__setattr__" = some (some (.builtin "object.__setattr__")))
 (h7z:W.findIn K (.ref cz) "__class__" = some (some (.builtin "object.__class__")))
 (h80:W.specialIn K (.builtin "object.__class__") "__get__" = some (some (.builtin "getset_descriptor.__get__")))
 (h81:W.takesIn K (.builtin "object.__class__")=some true)
 (h82:W.mroIn K cz (.type "object")=some true)
 (h83:W.makesIn K cz=true)
 (h84:W.findIn K (.ref cz) "__init__" = some (some (.ref f1)))
 (h85:W.isFn K (.ref f1)=true)
 (h86:W.keepIn K (.ref cz)=true)
 (h87:W.findIn K (.ref cz) "fits" = some (some (.ref f2)))
 (h88:W.isFn K (.ref f2)=true)
 (h89:W.findIn K (.ref cz) "answer_of" = some (some (.ref f3)))
 (h8a:W.isFn K (.ref f3)=true)
 (h8b:W.findIn K (.ref cz) "rank" = some (some (.ref f4)))
 (h8c:W.isFn K (.ref f4)=true)
 (h8d:W.findIn K (.ref cz) "low" = some none)
 (h8e:W.findIn K (.ref cz) "high" = some none)
 (h8f:W.plainGet K dN Str.empty=true)
 (h8g:W.hasDictIn K dN=true)
 (h8h:W.plainOver K dN=true)
 (h8i:W.findIn K (.ref dN) "__setattr__" = some (some (.builtin "object.__setattr__")))
 (h8j:W.findIn K (.ref dN) "__class__" = some (some (.builtin "object.__class__")))
 (h8k:W.specialIn K (.builtin "object.__class__") "__get__" = some (some (.builtin "getset_descriptor.__get__")))
 (h8l:W.takesIn K (.builtin "object.__class__")=some true)
 (h8m:W.mroIn K dN (.type "object")=some true)
 (h8n:W.makesIn K dN=true)
 (h8o:W.findIn K (.ref dN) "__init__" = some (some (.ref f0)))
 (h8p:W.isFn K (.ref f0)=true)
 (h8q:W.keepIn K (.ref dN)=true)
 (h8r:W.findIn K (.ref dN) "low" = some none)
 (h8s:W.findIn K (.ref dN) "high" = some none)
 (h8t:W.plainGet K lB Str.empty=true)
 (h8u:W.hasDictIn K lB=true)
 (h8v:W.plainOver K lB=true)
 (h8w:W.findIn K (.ref lB) "__setattr__" = some (some (.builtin "object.__setattr__")))
 (h8x:W.findIn K (.ref lB) "__class__" = some (some (.builtin "object.__class__")))
 (h8y:W.specialIn K (.builtin "object.__class__") "__get__" = some (some (.builtin "getset_descriptor.__get__")))
 (h8z:W.takesIn K (.builtin "object.__class__")=some true)
 (h90:W.mroIn K lB (.type "object")=some true)
 (h91:W.makesIn K lB=true)
 (h92:W.findIn K (.ref lB) "__init__" = some (some (.ref f6)))
 (h93:W.isFn K (.ref f6)=true)
 (h94:W.keepIn K (.ref lB)=true)
 (h95:W.findIn K (.ref lB) "name" = some none)
 (h96:W.findIn K (.ref lB) "kind" = some none)
 (h97:W.findIn K (.ref lB) "when" = some none)
 (h98:W.plainGet K eE Str.empty=true)
 (h99:W.hasDictIn K eE=true)
 (h9a:W.plainOver K eE=true)
 (h9b:W.findIn K (.ref eE) "__setattr__" = some (some (.builtin "object.__setattr__")))
 (h9c:W.makesIn K eE=true)
 (h9d:W.findIn K (.ref eE) "__init__" = some (some (.ref f7)))
 (h9e:W.isFn K (.ref f7)=true)
 (h9f:W.keepIn K (.ref eE)=true)
 (h9g:W.findIn K (.ref eE) "name" = some none)
 (h9h:W.findIn K (.ref eE) "each" = some none)
 (h9i:W.findIn K (.ref eE) "rows" = some none)
 (h9j:W.findIn K (.ref eE) "ways" = some none)
 (h9k:W.plainGet K fu Str.empty=true)
 (h9l:W.hasDictIn K fu=true)
 (h9m:W.plainOver K fu=true)
 (h9n:W.findIn K (.ref fu) "__setattr__" = some (some (.builtin "object.__setattr__")))
 (h9o:W.makesIn K fu=true)
 (h9p:W.findIn K (.ref fu) "__init__" = some (some (.ref f8)))
 (h9q:W.isFn K (.ref f8)=true)
 (h9r:W.keepIn K (.ref fu)=true)
 (h9s:W.findIn K (.ref fu) "name" = some none)
 (h9t:W.findIn K (.ref fu) "sheets" = some none)
 (h9u:W.findIn K (.ref fu) "totals" = some none)
 (h9v:W.plainGet K aC Str.empty=true)
 (h9w:W.hasDictIn K aC=true)
 (h9x:W.plainOver K aC=true)
 (h9y:W.findIn K (.ref aC) "__setattr__" = some (some (.builtin "object.__setattr__")))
 (h9z:W.makesIn K aC=true)
 (ha0:W.findIn K (.ref aC) "__init__" = some (some (.ref Zb)))
 (ha1:W.isFn K (.ref Zb)=true)
 (ha2:W.keepIn K (.ref aC)=true)
 (ha3:W.findIn K (.ref aC) "things_of" = some (some (.ref Zd)))
 (ha4:W.isFn K (.ref Zd)=true)
 (ha5:W.findIn K (.ref aC) "put" = some (some (.ref Ze)))
 (ha6:W.isFn K (.ref Ze)=true)
 (ha7:W.findIn K (.ref aC) "is_so" = some (some (.ref Zg)))
 (ha8:W.isFn K (.ref Zg)=true)
 (ha9:W.findIn K (.ref aC) "note" = some (some (.ref YG)))
 (haa:W.isFn K (.ref YG)=true)
 (hab:W.findIn K (.ref aC) "stop_with" = some (some (.ref YK)))
 (hac:W.isFn K (.ref YK)=true)
 (had:W.findIn K (.ref aC) "go_through" = some (some (.ref YL)))
 (hae:W.isFn K (.ref YL)=true)
 (haf:W.findIn K (.ref aC) "targets_of" = some (some (.ref YM)))
 (hag:W.isFn K (.ref YM)=true)
 (hah:W.findIn K (.ref aC) "leave" = some (some (.ref YQ)))
 (hai:W.isFn K (.ref YQ)=true)
 (haj:W.findIn K (.ref aC) "go" = some (some (.ref YS)))
 (hak:W.isFn K (.ref YS)=true)
 (hal:W.findIn K (.ref aC) "own_thing" = some (some (.ref YH)))
 (ham:W.isFn K (.ref YH)=true)
 (han:W.findIn K (.ref aC) "known_of" = some (some (.ref YJ)))
 (hao:W.isFn K (.ref YJ)=true)
 (hap:W.findIn K (.ref aC) "span_of" = some (some (.ref Zf)))
 (haq:W.isFn K (.ref Zf)=true)
 (har:W.findIn K (.ref aC) "split_at" = some (some (.ref Zc)))
 (has:W.isFn K (.ref Zc)=true)
 (hat:W.findIn K (.ref aC) "split_by" = some (some (.ref Zh)))
 (hau:W.isFn K (.ref Zh)=true)
 (hav:W.findIn K (.ref aC) "paper" = some none)
 (haw:W.findIn K (.ref aC) "alone" = some none)
 (hax:W.findIn K (.ref aC) "kinds" = some none)
 (hay:W.findIn K (.ref aC) "eaches" = some none)
 (haz:W.findIn K (.ref aC) "together" = some none)
 (hb0:W.findIn K (.ref aC) "asked" = some none)
 (hb1:W.findIn K (.ref aC) "log" = some none)
 (hb2:W.findIn K (.ref aC) "doubles" = some none)
 (hb3:W.findIn K (.ref aC) "over" = some none)
 (hb4:W.findIn K (.ref aC) "box" = some none)
 (hb5:W.findIn K (.ref aC) "cutting" = some none)
 (hb6:W.plainGet K jm Str.empty=true)
 (hb7:W.hasDictIn K jm=true)
 (hb8:W.plainOver K jm=true)
 (hb9:W.findIn K (.ref jm) "__setattr__" = some (some (.builtin "object.__setattr__")))
 (hba:W.findIn K (.ref jm) "__class__" = some (some (.builtin "object.__class__")))
 (hbb:W.specialIn K (.builtin "object.__class__") "__get__" = some (some (.builtin "getset_descriptor.__get__")))
 (hbc:W.takesIn K (.builtin "object.__class__")=some true)
 (hbd:W.mroIn K jm (.type "object")=some true)
 (hbe:W.makesIn K jm=true)
 (hbf:W.findIn K (.ref jm) "__init__" = some (some (.ref YT)))
 (hbg:W.isFn K (.ref YT)=true)
 (hbh:W.keepIn K (.ref jm)=true)
 (hbi:W.findIn K (.ref jm) "settled" = some (some (.ref YX)))
 (hbj:W.isFn K (.ref YX)=true)
 (hbk:W.findIn K (.ref jm) "sure" = some (some (.ref YZ)))
 (Z7:W.isFn K (.ref YZ)=true)
 (hbm:W.findIn K (.ref jm) "atoms" = some (some (.ref YW)))
 (hbn:W.isFn K (.ref YW)=true)
 (hbo:W.findIn K (.ref jm) "first_open" = some (some (.ref Q8)))
 (hbp:W.isFn K (.ref Q8)=true)
 (hbq:W.findIn K (.ref jm) "name" = some none)
 (hbr:W.findIn K (.ref jm) "word" = some none)
 (hbs:W.findIn K (.ref jm) "place" = some none)
 (hbt:W.plainGet K bu Str.empty=true)
 (hbu:W.hasDictIn K bu=true)
 (hbv:W.plainOver K bu=true)
 (hbw:W.findIn K (.ref bu) "__setattr__" = some (some (.builtin "object.__setattr__")))
 (hbx:W.findIn K (.ref bu) "__class__" = some (some (.builtin "object.__class__")))
 (hby:W.specialIn K (.builtin "object.__class__") "__get__" = some (some (.builtin "getset_descriptor.__get__")))
 (hbz:W.takesIn K (.builtin "object.__class__")=some true)
 (hc0:W.mroIn K bu (.type "object")=some true)
 (hc1:W.makesIn K bu=true)
 (hc2:W.findIn K (.ref bu) "__init__" = some (some (.ref Y0)))
 (hc3:W.isFn K (.ref Y0)=true)
 (hc4:W.keepIn K (.ref bu)=true)
 (hc5:W.findIn K (.ref bu) "settled" = some (some (.ref Y5)))
 (hc6:W.isFn K (.ref Y5)=true)
 (hc7:W.findIn K (.ref bu) "sure" = some (some (.ref Y6)))
 (hc8:W.isFn K (.ref Y6)=true)
 (hc9:W.findIn K (.ref bu) "atoms" = some (some (.ref Y4)))
 (hca:W.isFn K (.ref Y4)=true)
 (hcb:W.findIn K (.ref bu) "first_open" = some (some (.ref Q8)))
 (hcc:W.isFn K (.ref Q8)=true)
 (hcd:W.findIn K (.ref bu) "name" = some none)
 (hce:W.findIn K (.ref bu) "how" = some none)
 (hcf:W.findIn K (.ref bu) "number" = some none)
 (hcg:W.plainGet K iu Str.empty=true)
 (hch:W.hasDictIn K iu=true)
 (hci:W.plainOver K iu=true)
 (hcj:W.findIn K (.ref iu) "__setattr__" = some (some (.builtin "object.__setattr__")))
 (hck:W.makesIn K iu=true)
 (hcl:W.findIn K (.ref iu) "__init__" = some (some (.ref Y7)))
 (hcm:W.isFn K (.ref Y7)=true)
 (hcn:W.keepIn K (.ref iu)=true)
 (hco:W.findIn K (.ref iu) "settled" = some (some (.ref Y9)))
 (hcp:W.isFn K (.ref Y9)=true)
 (hcq:W.findIn K (.ref iu) "sure" = some (some (.ref Za)))
 (hcr:W.isFn K (.ref Za)=true)
 (hcs:W.findIn K (.ref iu) "atoms" = some (some (.ref Y8)))
 (hct:W.isFn K (.ref Y8)=true)
 (hcu:W.findIn K (.ref iu) "first_open" = some (some (.ref Q8)))
 (hcv:W.isFn K (.ref Q8)=true)
 (hcw:W.findIn K (.ref iu) "test" = some none)
 (hcx:W.readsIn K d9 (.type "type")=true)
 (hcy:W.findCls K (.ref d9) (.type "type") "__init__" = some (.val (.ref f12)))
 (hcz:W.specialIn K (.ref d9) "__getattribute__" = some (some (.builtin "type.__getattribute__")))
 (hd0:W.readsIn K vz (.type "type")=true)
 (hd1:W.findCls K (.ref vz) (.type "type") "__init__" = some (.val (.ref f0)))
 (hd2:W.specialIn K (.ref vz) "__getattribute__" = some (some (.builtin "type.__getattribute__")))
 (M5:W.readsIn K CK (.type "type")=true)
 (hd4:W.findCls K (.ref CK) (.type "type") "__init__" = some (.val (.ref f5)))
 (Yz:W.specialIn K (.ref CK) "__getattribute__" = some (some (.builtin "type.__getattribute__")))
 (mk1:Tt=.ref mc)
 (mk2:K.lookup mc=some ⟨mt,mod,.fields mvs,msl⟩)
 (mk3:mvs[11]? = some (.ref mP))
 (mk4:W.codeHdIn K mc mP=true)
 (mk5:K.lookup mP=none)
 (mk6:h.get? mP=some (W.tabObj #[])) :
 ∃ A:cQ,Txt K mg A∧∃ c P,A.aL.code=.ref c∧W.codeHdIn K c P=true∧K.lookup P=none∧h.get? P=some (W.tabObj #[]) :=
 ⟨⟨f0,
   W.fnOf "__init__" "Kind.__init__" (ak bJ) (aj bJ) (aa bJ) .none kV0 dc0 pm0 an0 cd0 ct0,
   f1,
   W.fnOf "__init__" "YesNo.__init__" (ak bC) (aj bC) (aa bC) .none kV1 dc1 pm1 an1 cd1 ct1,
   f2,
   W.fnOf "fits" "YesNo.fits" (ak bN) (aj bN) (aa bN) .none kV2 dc2 pm2 an2 cd2 ct2,
   f3,
   W.fnOf "answer_of" "YesNo.answer_of" (ak aN) (aj aN) (aa aN) .none kV3 dc3 pm3 an3 cd3 ct3,
   f4,
   W.fnOf "rank" "YesNo.rank" (ak bO) (aj bO) (aa bO) .none kV4 dc4 pm4 an4 cd4 ct4,
   f5,
   W.fnOf "__init__" "Row.__init__" (ak bQ) (aj bQ) (aa bQ) .none kV5 dc5 pm5 an5 cd5 ct5,
   f6,
   W.fnOf "__init__" "Ask.__init__" (ak bR) (aj bR) (aa bR) (.ref dT6) kV6 dc6 pm6 an6 cd6 ct6,
   [.none],
   f7,
   W.fnOf "__init__" "Sheet.__init__" (ak bD) (aj bD) (aa bD) .none kV7 dc7 pm7 an7 cd7 ct7,
   f8,
   W.fnOf "__init__" "Paper.__init__" (ak bF) (aj bF) (aa bF) .none kV8 dc8 pm8 an8 cd8 ct8,
   f9,
   W.fnOf "kinds_of" "kinds_of" (ak dw) (aj dw) (aa dw) .none kV9 dc9 pm9 an9 cd9 ct9,
   f10,
   W.fnOf "eaches_of" "eaches_of" (ak cT) (aj cT) (aa cT) .none ack acn aco abw Xd acp,
   f11,
   W.fnOf "all_together" "all_together" (ak bT) (aj bT) (aa bT) .none acq acr acs abx Xe acu,
   f12,
   W.fnOf "__init__" "Going.__init__" (ak bG) (aj bG) (aa bG) .none acv acw acx aby Xf acy,
   YG,
   W.fnOf "note" "Going.note" (ak bU) (aj bU) (aa bU) .none acz acA acB abz Xg acC,
   YH,
   W.fnOf "own_thing" "Going.own_thing" (ak aO) (aj aO) (aa aO) .none acD acE acF abA Xh acG,
   YJ,
   W.fnOf "known_of" "Going.known_of" (ak aY) (aj aY) (aa aY) .none acH acI acJ abB Xi acK,
   YK,
   W.fnOf "stop_with" "Going.stop_with" (ak aP) (aj aP) (aa aP) .none acL acM acN abC Xj acO,
   YL,
   W.fnOf "go_through" "Going.go_through" (ak aJ) (aj aJ) (aa aJ) .none acP acQ acR abD Xk acS,
   YM,
   W.fnOf "targets_of" "Going.targets_of" (ak aK) (aj aK) (aa aK) .none acT acU acV abE Xl acW,
   YQ,
   W.fnOf "leave" "Going.leave" (ak bK) (aj bK) (aa bK) .none acX acY acZ abF Xm ac0,
   YS,
   W.fnOf "go" "Going.go" (ak cD) (aj cD) (aa cD) .none ac1 ac2 ac3 abG Xn ac4,
   f21,
   W.fnOf "compares" "compares" (ak dB) (aj dB) (aa dB) .none ac5 ac6 ac7 abH Xo ac8,
   f22,
   W.fnOf "surely_compares" "surely_compares" (ak bz) (aj bz) (aa bz) .none ac9 ada adb abI Xp ade,
   Q8,
   W.fnOf "first_open" "Saying.first_open" (ak aD) (aj aD) (aa aD) .none adf adg adh abJ Xq adi,
   YT,
   W.fnOf "__init__" "Is.__init__" (ak bV) (aj bV) (aa bV) (.ref Xc) adk adl adm abK Xr adn,
   [.none],
   YW,
   W.fnOf "atoms" "Is.atoms" (ak cF) (aj cF) (aa cF) .none ado adp adq abL Xu adt,
   YX,
   W.fnOf "settled" "Is.settled" (ak bW) (aj bW) (aa bW) .none adu adv adw abM Xv adx,
   YZ,
   W.fnOf "sure" "Is.sure" (ak cU) (aj cU) (aa cU) .none ady adz adA abN Xw adB,
   Y0,
   W.fnOf "__init__" "Compare.__init__" (ak aZ) (aj aZ) (aa aZ) .none adC adD adE abO Xx adF,
   Y4,
   W.fnOf "atoms" "Compare.atoms" (ak bA) (aj bA) (aa bA) .none adG adH adI abP Xy adJ,
   Y5,
   W.fnOf "settled" "Compare.settled" (ak aQ) (aj aQ) (aa aQ) .none adK adL adM abQ Xz adN,
   Y6,
   W.fnOf "sure" "Compare.sure" (ak bH) (aj bH) (aa bH) .none adO adP adQ abR XC adR,
   Y7,
   W.fnOf "__init__" "Not.__init__" (ak bY) (aj bY) (aa bY) .none adS adT adU abS XD adV,
   Y8,
   W.fnOf "atoms" "Not.atoms" (ak cg) (aj cg) (aa cg) .none adW adX adY abT XF adZ,
   Y9,
   W.fnOf "settled" "Not.settled" (ak bL) (aj bL) (aa bL) .none ad0 ad1 ad2 abU XH ad3,
   Za,
   W.fnOf "sure" "Not.sure" (ak cG) (aj cG) (aa cG) .none ad4 ad5 ad6 abV XJ ad7,
   f36,
   W.fnOf "range_in" "range_in" (ak dC) (aj dC) (aa dC) .none ad8 ad9 aea abW XM aeb,
   f37,
   W.fnOf "cut_out" "cut_out" (ak dU) (aj dU) (aa dU) .none aec aed aee abX XN aef,
   f38,
   W.fnOf "cut_of" "cut_of" (ak fQ) (aj fQ) (aa fQ) .none aeg aeh aei abY XQ aej,
   Zb,
   W.fnOf "__init__" "ByBox.__init__" (ak bI) (aj bI) (aa bI) .none aek ael aem abZ XR aen,
   Zc,
   W.fnOf "split_at" "ByBox.split_at" (ak bc) (aj bc) (aa bc) .none aeo aep aeq ab0 XS aer,
   Zd,
   W.fnOf "things_of" "ByBox.things_of" (ak aR) (aj aR) (aa aR) .none aes aet aeu ab1 XX aev,
   Ze,
   W.fnOf "put" "ByBox.put" (ak cj) (aj cj) (aa cj) .none aew aex aey ab2 X3 aez,
   Zf,
   W.fnOf "span_of" "ByBox.span_of" (ak bB) (aj bB) (aa bB) .none aeA aeB aeC ab3 X4 aeD,
   Zg,
   W.fnOf "is_so" "ByBox.is_so" (ak aG) (aj aG) (aa aG) .none aeE aeF aeG ab4 Tt aeH,
   Zh,
   W.fnOf "split_by" "ByBox.split_by" (ak bf) (aj bf) (aa bf) .none aeI aeJ aeK ab5 X5 aeL,
   f46,
   W.fnOf "going_by" "going_by" (ak dD) (aj dD) (aa dD) .none aeM aeN aeO ab6 X6 aeP,
   f47,
   W.fnOf "_law_cell" "_law_cell" (ak dF) (aj dF) (aa dF) .none aeQ aeR aeS ab7 X7 aeT,
   f48,
   W.fnOf "_law_name" "_law_name" (ak dG) (aj dG) (aa dG) .none aeU aeV aeW ab8 X8 aeX,
   f49,
   W.fnOf "_law_three" "_law_three" (ak cV) (aj cV) (aa cV) .none aeY aeZ ae0 ab9 Yb ae1,
   f50,
   W.fnOf "_law_cut" "_law_cut" (ak dW) (aj dW) (aa dW) .none ae2 ae3 ae4 aca Yc ae5,
   f51,
   W.fnOf "_law_alike" "_law_alike" (ak cW) (aj cW) (aa cW) .none ae6 ae7 ae8 acb Yd ae9,
   f52,
   W.fnOf "_law_spans" "_law_spans" (ak cX) (aj cX) (aa cX) .none afa afb afc acd Ye afd,
   f53,
   W.fnOf "_law_way" "_law_way" (ak dX) (aj dX) (aa dX) .none afe afg afh ace Yg afi,
   f54,
   W.fnOf "_law_spoken" "_law_spoken" (ak cH) (aj cH) (aa cH) .none afj afk afl acf Yh afm,
   f55,
   W.fnOf "_law_known" "_law_known" (ak cY) (aj cY) (aa cY) .none afn afo afp acg Yi afq,
   f56,
   W.fnOf "_law_led" "_law_led" (ak dY) (aj dY) (aa dY) .none afr afs aft ach Yj afu,
   f57,
   W.fnOf "_law_going" "_law_going" (ak cZ) (aj cZ) (aa cZ) .none afv afw afx aci Yk afy,
   f58,
   W.fnOf "law" "law" (ak tu) (aj tu) (aa tu) .none afz afA afB acj Yl afC,
   ga0,
   lB,
   aC,
   bu,
   d9,
   jm,
   vz,
   qm,
   iu,
   fu,
   vA,
   CK,
   Ai,
   eE,
   dN,
   cz⟩,⟨ao (st:=bJ) h01 h02 h03,
   (ao (st:=bJ) h01 h02 h03).binds (ps:=["self","low","high"]) (fun _ _ _ _ _ _ us hl=>Kr us hl fun _ _ _=>rfl),
   ao (st:=bC) h05 h06 h07,
   (ao (st:=bC) h05 h06 h07).binds (ps:=["self"]) (fun _ _ _ _ _ _ us hl=>Tp us hl fun _=>rfl),
   ao (st:=bN) h09 h0a h0b,
   (ao (st:=bN) h09 h0a h0b).binds (ps:=["self","thing"]) (fun _ _ _ _ _ _ us hl=>wM us hl fun _ _=>rfl),
   ao (st:=aN) h0d h0e h0f,
   (ao (st:=aN) h0d h0e h0f).binds (ps:=["self","text"]) (fun _ _ _ _ _ _ us hl=>wM us hl fun _ _=>rfl),
   ao (st:=bO) h0h h0i h0j,
   (ao (st:=bO) h0h h0i h0j).binds (ps:=["self","answer"]) (fun _ _ _ _ _ _ us hl=>wM us hl fun _ _=>rfl),
   ao (st:=bQ) h0l h0m h0n,
   (ao (st:=bQ) h0l h0m h0n).binds (ps:=["self","name"]) (fun _ _ _ _ _ _ us hl=>wM us hl fun _ _=>rfl),
   (sX (st:=bR) h0p h0q h0r h0s),
   (sX (st:=bR) h0p h0q h0r h0s).binds (fun T _ _ _ _ _ _ us M A E Q s to n ht hc hd hl hq=>Kr us (Di (m:=3) hl rfl) (fun _ _ _ hq=>BindsTo.of_defaults rfl ht hd rfl rfl M A E Q hq) hq),
   .cons rfl (.nil),
   ao (st:=bD) h0u h0v h0w,
   (ao (st:=bD) h0u h0v h0w).binds (ps:=["self","name","each","rows","ways"]) (fun _ _ _ _ _ _ us hl=>el5 us hl fun _ _ _ _ _=>rfl),
   ao (st:=bF) h0y h0z h10,
   (ao (st:=bF) h0y h0z h10).binds (ps:=["self","name","sheets","totals"]) (fun _ _ _ _ _ _ us hl=>Tq us hl fun _ _ _ _=>rfl),
   ao (st:=dw) h12 h13 h14,
   (ao (st:=dw) h12 h13 h14).binds (ps:=["paper"]) (fun _ _ _ _ _ _ us hl=>Tp us hl fun _=>rfl),
   h14,
   W.mg_of X G h11,
   ao (st:=cT) h16 h17 h18,
   (ao (st:=cT) h16 h17 h18).binds (ps:=["paper"]) (fun _ _ _ _ _ _ us hl=>Tp us hl fun _=>rfl),
   h18,
   W.mg_of X G h15,
   ao (st:=bT) h1a h1b h1c,
   (ao (st:=bT) h1a h1b h1c).binds (ps:=["paper"]) (fun _ _ _ _ _ _ us hl=>Tp us hl fun _=>rfl),
   h1c,
   W.mg_of X G h19,
   ao (st:=bG) h1e h1f h1g,
   (ao (st:=bG) h1e h1f h1g).binds (ps:=["self","paper","alone"]) (fun _ _ _ _ _ _ us hl=>Kr us hl fun _ _ _=>rfl),
   ao (st:=bU) h1i h1j h1k,
   (ao (st:=bU) h1i h1j h1k).binds (ps:=["self","question","thing","known"]) (fun _ _ _ _ _ _ us hl=>Tq us hl fun _ _ _ _=>rfl),
   ao (st:=aO) h1m h1n h1o,
   (ao (st:=aO) h1m h1n h1o).binds (ps:=["self","question","thing"]) (fun _ _ _ _ _ _ us hl=>Kr us hl fun _ _ _=>rfl),
   ao (st:=aY) h1q h1r h1s,
   (ao (st:=aY) h1q h1r h1s).binds (ps:=["self","question","thing"]) (fun _ _ _ _ _ _ us hl=>Kr us hl fun _ _ _=>rfl),
   ao (st:=aP) h1u h1v h1w,
   (ao (st:=aP) h1u h1v h1w).binds (ps:=["self","row"]) (fun _ _ _ _ _ _ us hl=>wM us hl fun _ _=>rfl),
   ao (st:=aJ) h1y h1z h20,
   (ao (st:=aJ) h1y h1z h20).binds (ps:=["self","sheet","thing"]) (fun _ _ _ _ _ _ us hl=>Kr us hl fun _ _ _=>rfl),
   ao (st:=aK) h22 h23 h24,
   (ao (st:=aK) h22 h23 h24).binds (ps:=["self","sheet"]) (fun _ _ _ _ _ _ us hl=>wM us hl fun _ _=>rfl),
   ao (st:=bK) h26 h27 h28,
   (ao (st:=bK) h26 h27 h28).binds (ps:=["self","place"]) (fun _ _ _ _ _ _ us hl=>wM us hl fun _ _=>rfl),
   ao (st:=cD) h2a h2b h2c,
   (ao (st:=cD) h2a h2b h2c).binds (ps:=["self"]) (fun _ _ _ _ _ _ us hl=>Tp us hl fun _=>rfl),
   ao (st:=dB) h2e h2f h2g,
   (ao (st:=dB) h2e h2f h2g).binds (ps:=["rank","how","number"]) (fun _ _ _ _ _ _ us hl=>Kr us hl fun _ _ _=>rfl),
   h2g,
   W.mg_of X G h2d,
   ao (st:=bz) h2i h2j h2k,
   (ao (st:=bz) h2i h2j h2k).binds (ps:=["span","how","number"]) (fun _ _ _ _ _ _ us hl=>Kr us hl fun _ _ _=>rfl),
   h2k,
   W.mg_of X G h2h,
   ao (st:=aD) h2m h2n Ym,
   (ao (st:=aD) h2m h2n Ym).binds (ps:=["self","look"]) (fun _ _ _ _ _ _ us hl=>wM us hl fun _ _=>rfl),
   (sX (st:=bV) h2q h2r h2s h2t),
   (sX (st:=bV) h2q h2r h2s h2t).binds (es:=[]) (fun T _ _ _ _ _ _ us M A E Q s to n ht hc hd hl hq=>Tq us (Di (m:=4) hl rfl) (fun _ _ _ _ hq=>BindsTo.of_defaults rfl ht hd rfl rfl M A E Q hq) hq),
   (sX (st:=bV) h2q h2r h2s h2t).binds (fun T _ _ _ _ _ _ us M A E Q s to n ht hc hd hl hq=>Kr us (Di (m:=3) hl rfl) (fun _ _ _ hq=>BindsTo.of_defaults rfl ht hd rfl rfl M A E Q hq) hq),
   .cons rfl (.nil),
   ao (st:=cF) h2v h2w h2x,
   (ao (st:=cF) h2v h2w h2x).binds (ps:=["self"]) (fun _ _ _ _ _ _ us hl=>Tp us hl fun _=>rfl),
   ao (st:=bW) h2z h30 h31,
   (ao (st:=bW) h2z h30 h31).binds (ps:=["self","kinds"]) (fun _ _ _ _ _ _ us hl=>wM us hl fun _ _=>rfl),
   ao (st:=cU) h33 h34 h35,
   (ao (st:=cU) h33 h34 h35).binds (ps:=["self","look"]) (fun _ _ _ _ _ _ us hl=>wM us hl fun _ _=>rfl),
   ao (st:=aZ) h37 h38 h39,
   (ao (st:=aZ) h37 h38 h39).binds (ps:=["self","name","how","number"]) (fun _ _ _ _ _ _ us hl=>Tq us hl fun _ _ _ _=>rfl),
   ao (st:=bA) h3b h3c h3d,
   (ao (st:=bA) h3b h3c h3d).binds (ps:=["self"]) (fun _ _ _ _ _ _ us hl=>Tp us hl fun _=>rfl),
   ao (st:=aQ) h3f h3g h3h,
   (ao (st:=aQ) h3f h3g h3h).binds (ps:=["self","kinds"]) (fun _ _ _ _ _ _ us hl=>wM us hl fun _ _=>rfl),
   ao (st:=bH) h3j h3k h3l,
   (ao (st:=bH) h3j h3k h3l).binds (ps:=["self","look"]) (fun _ _ _ _ _ _ us hl=>wM us hl fun _ _=>rfl),
   ao (st:=bY) h3n h3o h3p,
   (ao (st:=bY) h3n h3o h3p).binds (ps:=["self","test"]) (fun _ _ _ _ _ _ us hl=>wM us hl fun _ _=>rfl),
   ao (st:=cg) h3r h3s h3t,
   (ao (st:=cg) h3r h3s h3t).binds (ps:=["self"]) (fun _ _ _ _ _ _ us hl=>Tp us hl fun _=>rfl),
   ao (st:=bL) h3v h3w h3x,
   (ao (st:=bL) h3v h3w h3x).binds (ps:=["self","kinds"]) (fun _ _ _ _ _ _ us hl=>wM us hl fun _ _=>rfl),
   ao (st:=cG) h3z h40 h41,
   (ao (st:=cG) h3z h40 h41).binds (ps:=["self","look"]) (fun _ _ _ _ _ _ us hl=>wM us hl fun _ _=>rfl),
   ao (st:=dC) h43 h44 h45,
   (ao (st:=dC) h43 h44 h45).binds (ps:=["box","kinds","question","k"]) (fun _ _ _ _ _ _ us hl=>Tq us hl fun _ _ _ _=>rfl),
   h45,
   W.mg_of X G h42,
   ao (st:=dU) h47 h48 h49,
   (ao (st:=dU) h47 h48 h49).binds (ps:=["number","low"]) (fun _ _ _ _ _ _ us hl=>wM us hl fun _ _=>rfl),
   h49,
   W.mg_of X G h46,
   ao (st:=fQ) h4b h4c h4d,
   (ao (st:=fQ) h4b h4c h4d).binds (ps:=["atom","low"]) (fun _ _ _ _ _ _ us hl=>wM us hl fun _ _=>rfl),
   h4d,
   W.mg_of X G h4a,
   ao (st:=bI) h4f h4g h4h,
   (ao (st:=bI) h4f h4g h4h).binds (ps:=["self","paper","box"]) (fun _ _ _ _ _ _ us hl=>Kr us hl fun _ _ _=>rfl),
   ao (st:=bc) h4j h4k h4l,
   (ao (st:=bc) h4j h4k h4l).binds (ps:=["self","question","thing","cut"]) (fun _ _ _ _ _ _ us hl=>Tq us hl fun _ _ _ _=>rfl),
   ao (st:=aR) h4n h4o h4p,
   (ao (st:=aR) h4n h4o h4p).binds (ps:=["self","sheet"]) (fun _ _ _ _ _ _ us hl=>wM us hl fun _ _=>rfl),
   ao (st:=cj) h4r h4s h4t,
   (ao (st:=cj) h4r h4s h4t).binds (ps:=["self","question","thing"]) (fun _ _ _ _ _ _ us hl=>Kr us hl fun _ _ _=>rfl),
   ao (st:=bB) h4v h4w h4x,
   (ao (st:=bB) h4v h4w h4x).binds (ps:=["self","name","thing"]) (fun _ _ _ _ _ _ us hl=>Kr us hl fun _ _ _=>rfl),
   ao (st:=aG) h4z h50 h51,
   (ao (st:=aG) h4z h50 h51).binds (ps:=["self","saying","thing"]) (fun _ _ _ _ _ _ us hl=>Kr us hl fun _ _ _=>rfl),
   ao (st:=bf) h53 h54 h55,
   (ao (st:=bf) h53 h54 h55).binds (ps:=["self","atom","thing"]) (fun _ _ _ _ _ _ us hl=>Kr us hl fun _ _ _=>rfl),
   ao (st:=dD) h57 h58 h59,
   (ao (st:=dD) h57 h58 h59).binds (ps:=["paper","box"]) (fun _ _ _ _ _ _ us hl=>wM us hl fun _ _=>rfl),
   h59,
   W.mg_of X G h56,
   ao (st:=dF) h5b h5c h5d,
   (ao (st:=dF) h5b h5c h5d).binds (ps:=["_law_script","_law_k"]) (fun _ _ _ _ _ _ us hl=>wM us hl fun _ _=>rfl),
   h5d,
   W.mg_of X G h5a,
   ao (st:=dG) h5f h5g h5h,
   (ao (st:=dG) h5f h5g h5h).binds (ps:=["_law_script","_law_k"]) (fun _ _ _ _ _ _ us hl=>wM us hl fun _ _=>rfl),
   h5h,
   W.mg_of X G h5e,
   ao (st:=cV) h5j h5k h5l,
   (ao (st:=cV) h5j h5k h5l).binds (ps:=["_law_how","_law_low","_law_high","_law_number"]) (fun _ _ _ _ _ _ us hl=>Tq us hl fun _ _ _ _=>rfl),
   h5l,
   W.mg_of X G h5i,
   ao (st:=dW) h5n h5o h5p,
   (ao (st:=dW) h5n h5o h5p).binds (ps:=["_law_how","_law_low","_law_number"]) (fun _ _ _ _ _ _ us hl=>Kr us hl fun _ _ _=>rfl),
   h5p,
   W.mg_of X G h5m,
   ao (st:=cW) h5r h5s h5t,
   (ao (st:=cW) h5r h5s h5t).binds (ps:=["_law_found","_law_due"]) (fun _ _ _ _ _ _ us hl=>wM us hl fun _ _=>rfl),
   h5t,
   W.mg_of X G h5q,
   ao (st:=cX) h5v h5w h5x,
   (ao (st:=cX) h5v h5w h5x).binds (ps:=["_law_script"]) (fun _ _ _ _ _ _ us hl=>Tp us hl fun _=>rfl),
   h5x,
   W.mg_of X G h5u,
   ao (st:=dX) h5z h60 h61,
   (ao (st:=dX) h5z h60 h61).binds (ps:=["_law_cell_here","_law_spans_here"]) (fun _ _ _ _ _ _ us hl=>wM us hl fun _ _=>rfl),
   h61,
   W.mg_of X G h5y,
   ao (st:=cH) h63 h64 h65,
   (ao (st:=cH) h63 h64 h65).binds (ps:=["_law_names","_law_said"]) (fun _ _ _ _ _ _ us hl=>wM us hl fun _ _=>rfl),
   h65,
   W.mg_of X G h62,
   ao (st:=cY) h67 h68 h69,
   (ao (st:=cY) h67 h68 h69).binds (ps:=["_law_said","_law_spans_here"]) (fun _ _ _ _ _ _ us hl=>wM us hl fun _ _=>rfl),
   h69,
   W.mg_of X G h66,
   ao (st:=dY) h6b h6c h6d,
   (ao (st:=dY) h6b h6c h6d).binds (ps:=["_law_names","_law_sheet","_law_ways","_law_spans_here"]) (fun _ _ _ _ _ _ us hl=>Tq us hl fun _ _ _ _=>rfl),
   h6d,
   W.mg_of X G h6a,
   ao (st:=cZ) h6f h6g h6h,
   (ao (st:=cZ) h6f h6g h6h).binds (ps:=["_law_names","_law_ways","_law_more","_law_spans_here"]) (fun _ _ _ _ _ _ us hl=>Tq us hl fun _ _ _ _=>rfl),
   h6h,
   W.mg_of X G h6e,
   ao (st:=tu) h6j h6k h6l,
   W.mg_of X G h6i,
   W.mg_of X G h6m,
   RN h6n h6o h6p h6q h6r h6s,
   W.mg_none_of X G h6t,
   W.mg_none_of X G h6u,
   W.mg_none_of X G h6v,
   W.mg_none_of X G h6w,
   W.mg_none_of X G h6x,
   W.mg_none_of X G h6y,
   W.mg_none_of X G h6z,
   W.mg_none_of X G h70,
   W.mg_none_of X G h71,
   W.mg_none_of X G h72,
   W.mg_none_of X G h73,
   L2.dJ (by symm),
   L2.dJ (by symm),
   L2.dJ (by symm),
   L2.dJ (by symm),
   L2.dJ (by symm),
   L2.dJ (by symm),
   L2.dJ (by symm),
   L2.dJ (by symm),
   L2.dJ (by symm),
   L2.dJ (by symm),
   L2.dJ (by symm),
   L2.dJ (by symm),
   L2.dJ (by symm),
   L2.dJ (by symm),
   L2.dJ (by symm),
   L2.dJ (by symm),
   L2.dJ (by symm),
   L2.dJ (by symm),
   L2.dJ (by symm),
   W.mg_of X G h74,
   ⟨_,W.mg_of X G h74,rfl⟩,
   W.mg_of X G h75,
   W.mg_of X G h76,
   W.mg_of X G h77,
   W.mg_of X G h78,
   ⟨_,W.mg_of X G h78,rfl⟩,
   W.mg_of X G h79,
   ⟨_,W.mg_of X G h7a,rfl⟩,
   W.mg_of X G h7b,
   W.mg_of X G h7c,
   ⟨_,W.mg_of X G h7d,rfl⟩,
   W.mg_of X G h7e,
   W.mg_of X G h7g,
   W.mg_of X G h7h,
   ⟨_,W.mg_of X G h7h,rfl⟩,
   W.mg_of X G h7i,
   ⟨_,W.mg_of X G h7i,rfl⟩,
   sW,
   sW,
   Dh h7n h7o h7p h7q,
   sW,
   Dh h7l h7m h7r h7s,
   sW,
   Dh h7j h7k h7t h7u,
   ⟨h7v,h7w,h7x,h7y⟩,
   fun _ _ _ _ e=>.ins e ⟨h7v,h7w,h7x,h7y⟩ h7z h80 h81 h82,
   ⟨h83,h84,h85,h86⟩,
   ⟨h87,h88,h0b⟩,
   ⟨h89,h8a,h0f⟩,
   ⟨h8b,h8c,h0j⟩,
   h8d,
   h8e,
   ⟨h8f,h8g,h8h,h8i⟩,
   fun _ _ _ _ e=>.ins e ⟨h8f,h8g,h8h,h8i⟩ h8j h8k h8l h8m,
   ⟨h8n,h8o,h8p,h8q⟩,
   h8r,
   h8s,
   ⟨h8t,h8u,h8v,h8w⟩,
   fun _ _ _ _ e=>.ins e ⟨h8t,h8u,h8v,h8w⟩ h8x h8y h8z h90,
   ⟨h91,h92,h93,h94⟩,
   h95,
   h96,
   h97,
   ⟨h98,h99,h9a,h9b⟩,
   ⟨h9c,h9d,h9e,h9f⟩,
   h9g,
   h9h,
   h9i,
   h9j,
   ⟨h9k,h9l,h9m,h9n⟩,
   ⟨h9o,h9p,h9q,h9r⟩,
   h9s,
   h9t,
   h9u,
   ⟨h9v,h9w,h9x,h9y⟩,
   ⟨h9z,ha0,ha1,ha2⟩,
   ⟨ha3,ha4,h4p⟩,
   ⟨ha5,ha6,h4t⟩,
   ⟨ha7,ha8,h51⟩,
   ⟨ha9,haa,h1k⟩,
   ⟨hab,hac,h1w⟩,
   ⟨had,hae,h20⟩,
   ⟨haf,hag,h24⟩,
   ⟨hah,hai,h28⟩,
   ⟨haj,hak,h2c⟩,
   ⟨hal,ham,h1o⟩,
   ⟨han,hao,h1s⟩,
   ⟨hap,haq,h4x⟩,
   ⟨har,has,h4l⟩,
   ⟨hat,hau,h55⟩,
   hav,
   haw,
   hax,
   hay,
   haz,
   hb0,
   hb1,
   hb2,
   hb3,
   hb4,
   hb5,
   ⟨hb6,hb7,hb8,hb9⟩,
   fun _ _ _ _ e=>.ins e ⟨hb6,hb7,hb8,hb9⟩ hba hbb hbc hbd,
   ⟨hbe,hbf,hbg,hbh⟩,
   ⟨hbi,hbj,h31⟩,
   ⟨hbk,Z7,h35⟩,
   ⟨hbm,hbn,h2x⟩,
   ⟨hbo,hbp,Ym⟩,
   hbq,
   hbr,
   hbs,
   ⟨hbt,hbu,hbv,hbw⟩,
   fun _ _ _ _ e=>.ins e ⟨hbt,hbu,hbv,hbw⟩ hbx hby hbz hc0,
   ⟨hc1,hc2,hc3,hc4⟩,
   ⟨hc5,hc6,h3h⟩,
   ⟨hc7,hc8,h3l⟩,
   ⟨hc9,hca,h3d⟩,
   ⟨hcb,hcc,Ym⟩,
   hcd,
   hce,
   hcf,
   ⟨hcg,hch,hci,hcj⟩,
   ⟨hck,hcl,hcm,hcn⟩,
   ⟨hco,hcp,h3x⟩,
   ⟨hcq,hcr,h41⟩,
   ⟨hcs,hct,h3t⟩,
   ⟨hcu,hcv,Ym⟩,
   hcw,
   ⟨hcx,hcy,hcz,h1g⟩,
   ⟨hd0,hd1,hd2,h03⟩,
   ⟨M5,hd4,Yz,h0n⟩⟩,mc,mP,mk1,mk4,mk5,mk6⟩
theorem walk {l:W.OpenLaw}{q:Program}{loose:List Str}{XP:(Str→Option Value)→Heap→Prop}{YP:World→Heap→Prop}{d:DefRec}{K:Params→W.Frag} (hn:l.most=some 63) (hdf:d.params.defaults=[]) (hnm:d.name="law")
   (hY:∀ (w:World) (h:Heap),YP w h→(K w.params).In h)
   (F:∀ (w:World) (mg:Str→Option Value) (h:Heap),YP w h→(K w.params).In h→h.Ns mainGlobals mg→∃ A:cQ,Txt (K w.params) mg A∧∃ c P,A.aL.code=.ref c∧W.codeHdIn (K w.params) c P=true∧(K w.params).lookup P=none∧h.get? P=some (W.tabObj #[])) :
   W.WalkO q loose XP YP l.row.toRowW d [] (fun f vs=>PySem.call f vs):=by
 refine L2.Pa (ps:=dI DL.qual MK) ⟨_,_,_,rfl⟩ (n:=63) (k:=40) (x:="_law_script") (CX:=fun _=>b8) (sp:=fun Pt w=>QL (K w.params) Pt) hn (by decide) hdf ⟨rfl,by decide,by decide⟩ hY (fun w mg fa h Y KX G hmg=>?_) (fun Pt w H a ns hl hb hO hS=>⟨a,ns,rfl,hS,hl,hb,hO.1,fun _=>rfl⟩) fun _ _ _ _ _ z=>z
 obtain⟨A,T,c,Pt,m1,m2,m3,m4⟩:=F w mg h Y KX G
 rw [hnm] at hmg
 have e:=hmg.symm.trans T.aae
 cases e
 obtain⟨oc,od,kV,doc,pm,an,cdv,ct,osl,efd,lk,hcd⟩:=id T.Ua.ex
 exact⟨c,Pt,A.Pu,m2,m4,m3,fun s v=>by rw [efd];exact .of_eq rfl,fun base _ _ B=>WW T B m1 m2⟩
end jB
open PySem PySem.W PyProof.Rows
set_option maxRecDepth 100000 in
set_option maxHeartbeats 0 in
theorem PySem.Challenge.cw_askpaper_k54_ways_by_ranges_holds : PySem.Challenge.rw_askpaper_k54_ways_by_ranges.Holds := by
 refine PySem.Challenge.hd54 ?_
 k_fill
 refine jB.walk (l := PySem.Challenge.rw_askpaper_k54_ways_by_ranges) rfl rfl rfl (fun w h Y => W.km_in_of Y) ?F
 case F =>
   intro w mg h Y KX G
   have T : ∃ A : jB.cQ, jB.Txt (L2.KOf KX) mg A ∧ ∃ c P, A.aL.code = .ref c ∧ W.codeHdIn (L2.KOf KX) c P = true ∧ (L2.KOf KX).lookup P = none ∧ h.get? P = some (W.tabObj #[]) := by
     dsimp only [L2.KOf]
     refine' jB.Xb KX G ?h74 ?h75 ?h76 ?h77 ?h78 ?h79 ?h7a ?h7b ?h7c ?h7d ?h7e ?h7f ?h7g ?h7h ?h7i ?h00 ?h01 ?h02 ?h03 ?h04 ?h05 ?h06 ?h07 ?h08 ?h09 ?h0a ?h0b ?h0c ?h0d ?h0e ?h0f ?h0g ?h0h ?h0i ?h0j ?h0k ?h0l ?h0m ?h0n ?h0o ?h0p ?h0q ?h0r ?h0s ?h0t ?h0u ?h0v ?h0w ?h0x ?h0y ?h0z ?h10 ?h11 ?h12 ?h13 ?h14 ?h15 ?h16 ?h17 ?h18 ?h19 ?h1a ?h1b ?h1c ?h1d ?h1e ?h1f ?h1g ?h1h ?h1i ?h1j ?h1k ?h1l ?h1m ?h1n ?h1o ?h1p ?h1q ?h1r ?h1s ?h1t ?h1u ?h1v ?h1w ?h1x ?h1y ?h1z ?h20 ?h21 ?h22 ?h23 ?h24 ?h25 ?h26 ?h27 ?h28 ?h29 ?h2a ?h2b ?h2c ?h2d ?h2e ?h2f ?h2g ?h2h ?h2i ?h2j ?h2k ?h2l ?h2m ?h2n ?Ym ?h2p ?h2q ?h2r ?h2s ?h2t ?h2u ?h2v ?h2w ?h2x ?h2y ?h2z ?h30 ?h31 ?h32 ?h33 ?h34 ?h35 ?h36 ?h37 ?h38 ?h39 ?h3a ?h3b ?h3c ?h3d ?h3e ?h3f ?h3g ?h3h ?h3i ?h3j ?h3k ?h3l ?h3m ?h3n ?h3o ?h3p ?h3q ?h3r ?h3s ?h3t ?h3u ?h3v ?h3w ?h3x ?h3y ?h3z ?h40 ?h41 ?h42 ?h43 ?h44 ?h45 ?h46 ?h47 ?h48 ?h49 ?h4a ?h4b ?h4c ?h4d ?h4e ?h4f ?h4g ?h4h ?h4i ?h4j ?h4k ?h4l ?h4m ?h4n ?h4o ?h4p ?h4q ?h4r ?h4s ?h4t ?h4u ?h4v ?h4w ?h4x ?h4y ?h4z ?h50 ?h51 ?h52 ?h53 ?h54 ?h55 ?h56 ?h57 ?h58 ?h59 ?h5a ?h5b ?h5c ?h5d ?h5e ?h5f ?h5g ?h5h ?h5i ?h5j ?h5k ?h5l ?h5m ?h5n ?h5o ?h5p ?h5q ?h5r ?h5s ?h5t ?h5u ?h5v ?h5w ?h5x ?h5y ?h5z ?h60 ?h61 ?h62 ?h63 ?h64 ?h65 ?h66 ?h67 ?h68 ?h69 ?h6a ?h6b ?h6c ?h6d ?h6e ?h6f ?h6g ?h6h ?h6i ?h6j ?h6k ?h6l ?h6m ?h6n ?h6o ?h6p ?h6q ?h6r ?h6s ?h6t ?h6u ?h6v ?h6w ?h6x ?h6y ?h6z ?h70 ?h71 ?h72 ?h73 ?h7j ?h7k ?h7l ?h7m ?h7n ?h7o ?h7p ?h7q ?h7r ?h7s ?h7t ?h7u ?h7v ?h7w ?h7x ?h7y ?h7z ?h80 ?h81 ?h82 ?h83 ?h84 ?h85 ?h86 ?h87 ?h88 ?h89 ?h8a ?h8b ?h8c ?h8d ?h8e ?h8f ?h8g ?h8h ?h8i ?h8j ?h8k ?h8l ?h8m ?h8n ?h8o ?h8p ?h8q ?h8r ?h8s ?h8t ?h8u ?h8v ?h8w ?h8x ?h8y ?h8z ?h90 ?h91 ?h92 ?h93 ?h94 ?h95 ?h96 ?h97 ?h98 ?h99 ?h9a ?h9b ?h9c ?h9d ?h9e ?h9f ?h9g ?h9h ?h9i ?h9j ?h9k ?h9l ?h9m ?h9n ?h9o ?h9p ?h9q ?h9r ?h9s ?h9t ?h9u ?h9v ?h9w ?h9x ?h9y ?h9z ?ha0 ?ha1 ?ha2 ?ha3 ?ha4 ?ha5 ?ha6 ?ha7 ?ha8 ?ha9 ?haa ?hab ?hac ?had ?hae ?haf ?hag ?hah ?hai ?haj ?hak ?hal ?ham ?han ?hao ?hap ?haq ?har ?has ?hat ?hau ?hav ?haw ?hax ?hay ?haz ?hb0 ?hb1 ?hb2 ?hb3 ?hb4 ?hb5 ?hb6 ?hb7 ?hb8 ?hb9 ?hba ?hbb ?hbc ?hbd ?hbe ?hbf ?hbg ?hbh ?hbi ?hbj ?hbk ?Z7 ?hbm ?hbn ?hbo ?hbp ?hbq ?hbr ?hbs ?hbt ?hbu ?hbv ?hbw ?hbx ?hby ?hbz ?hc0 ?hc1 ?hc2 ?hc3 ?hc4 ?hc5 ?hc6 ?hc7 ?hc8 ?hc9 ?hca ?hcb ?hcc ?hcd ?hce ?hcf ?hcg ?hch ?hci ?hcj ?hck ?hcl ?hcm ?hcn ?hco ?hcp ?hcq ?hcr ?hcs ?hct ?hcu ?hcv ?hcw ?hcx ?hcy ?hcz ?hd0 ?hd1 ?hd2 ?M5 ?hd4 ?Yz ?mk1 ?mk2 ?mk3 ?mk4 ?mk5 ?mk6
     (case h74|h75|h76|h77|h78|h79|h7a|h7b|h7c|h7d|h7e|h7f|h7g|h7h|h7i|h00|h01|h02|h03|h04|h05|h06|h07|h08|h09|h0a|h0b|h0c|h0d|h0e|h0f|h0g|h0h|h0i|h0j|h0k|h0l|h0m|h0n|h0o|h0p|h0q|h0r|h0s|h0t|h0u|h0v|h0w|h0x|h0y|h0z|h10|h11|h12|h13|h14|h15|h16|h17|h18|h19|h1a|h1b|h1c|h1d|h1e|h1f|h1g|h1h|h1i|h1j|h1k|h1l|h1m|h1n|h1o|h1p|h1q|h1r|h1s|h1t|h1u|h1v|h1w|h1x|h1y|h1z|h20|h21|h22|h23|h24|h25|h26|h27|h28|h29|h2a|h2b|h2c|h2d|h2e|h2f|h2g|h2h|h2i|h2j|h2k|h2l|h2m|h2n|Ym|h2p|h2q|h2r|h2s|h2t|h2u|h2v|h2w|h2x|h2y|h2z|h30|h31|h32|h33|h34|h35|h36|h37|h38|h39|h3a|h3b|h3c|h3d|h3e|h3f|h3g|h3h|h3i|h3j|h3k|h3l|h3m|h3n|h3o|h3p|h3q|h3r|h3s|h3t|h3u|h3v|h3w|h3x|h3y|h3z|h40|h41|h42|h43|h44|h45|h46|h47|h48|h49|h4a|h4b|h4c|h4d|h4e|h4f|h4g|h4h|h4i|h4j|h4k|h4l|h4m|h4n|h4o|h4p|h4q|h4r|h4s|h4t|h4u|h4v|h4w|h4x|h4y|h4z|h50|h51|h52|h53|h54|h55|h56|h57|h58|h59|h5a|h5b|h5c|h5d|h5e|h5f|h5g|h5h|h5i|h5j|h5k|h5l|h5m|h5n|h5o|h5p|h5q|h5r|h5s|h5t|h5u|h5v|h5w|h5x|h5y|h5z|h60|h61|h62|h63|h64|h65|h66|h67|h68|h69|h6a|h6b|h6c|h6d|h6e|h6f|h6g|h6h|h6i|h6j|h6k|h6l|h6m|h6n => k_is)
     (case h6o => rfl)
     (case h6p => rfl)
     (case h6q => rfl)
     (case h6r => rfl)
     (case h6s => exact .cons rfl rfl (.cons rfl rfl (.nil)))
     (case h6t|h6u|h6v|h6w|h6x|h6y|h6z|h70|h71|h72|h73|h7j|h7k|h7l|h7m|h7n|h7o|h7p => k_is)
     (case h7q => rfl)
     (case h7r => k_is)
     (case h7s => rfl)
     (case h7t => k_is)
     (case h7u => rfl)
     (case h7v|h7w|h7x|h7y|h7z|h80|h81|h82|h83|h84|h85|h86|h87|h88|h89|h8a|h8b|h8c|h8d|h8e|h8f|h8g|h8h|h8i|h8j|h8k|h8l|h8m|h8n|h8o|h8p|h8q|h8r|h8s|h8t|h8u|h8v|h8w|h8x|h8y|h8z|h90|h91|h92|h93|h94|h95|h96|h97|h98|h99|h9a|h9b|h9c|h9d|h9e|h9f|h9g|h9h|h9i|h9j|h9k|h9l|h9m|h9n|h9o|h9p|h9q|h9r|h9s|h9t|h9u|h9v|h9w|h9x|h9y|h9z|ha0|ha1|ha2|ha3|ha4|ha5|ha6|ha7|ha8|ha9|haa|hab|hac|had|hae|haf|hag|hah|hai|haj|hak|hal|ham|han|hao|hap|haq|har|has|hat|hau|hav|haw|hax|hay|haz|hb0|hb1|hb2|hb3|hb4|hb5|hb6|hb7|hb8|hb9|hba|hbb|hbc|hbd|hbe|hbf|hbg|hbh|hbi|hbj|hbk|Z7|hbm|hbn|hbo|hbp|hbq|hbr|hbs|hbt|hbu|hbv|hbw|hbx|hby|hbz|hc0|hc1|hc2|hc3|hc4|hc5|hc6|hc7|hc8|hc9|hca|hcb|hcc|hcd|hce|hcf|hcg|hch|hci|hcj|hck|hcl|hcm|hcn|hco|hcp|hcq|hcr|hcs|hct|hcu|hcv|hcw|hcx|hcy|hcz|hd0|hd1|hd2|M5|hd4|Yz => k_is)
     (case mk1 => rfl)
     (case mk2 => k_is)
     (case mk3 => rfl)
     (case mk4 => kernel_rfl)
     (case mk5 => kernel_rfl)
     (case mk6 => exact W.km_tabs_of Y _ (by repeat (first | exact .head _ | apply List.Mem.tail)))
   exact T
