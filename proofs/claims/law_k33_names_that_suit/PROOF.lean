import PyProof.Rows.All
import OpenK.KLine
import OpenK.KWalk
import OpenK.KRaise
import Open.Line
import Wide.Line
import KE.IntBitsLaws
import KE.KIsAll
import KE.KTryMore
import KE.KNest
import KE.KLam
import Wide.FinOn
import Lean
import PyProof.EqAt
import PyProof.EqKinds
import PyProof.TupleCall
import PyProof.ZipIter
import PyProof.Rows.ZipGen
import PyProof.EnumMake
import PyProof.EnumFor
import PyProof.EnumStmt
import KE.KDictOf
import PyProof.AttrMissHeap
import PyProof.NeKinds
import KE.KItem
import KE.KDictSum
import KE.KSortTup
import KE.KEqDict
import KE.KRevSl
import KE.KTabExpr
import KE.KPairComp
import PyProof.DictItems
import KE.KDictList
import PyProof.ListRange
import PySem.Challenge.RW_askpaper_k33_names_that_suit
local macro_rules
 | `(‹$x:str›) => `((PySem.Str.ofString $x))
 | `(‹$x:ident›) => `((($x).mono (by first | decide | omega)))
 | `(‹0›) => `((by first | exact Or.inl rfl | exact Or.inr rfl))
local macro_rules | `(tactic| symm) => `(tactic| decide +kernel)
set_option Elab.async false
set_option linter.all false
set_option maxRecDepth 100000
open Lean in
local macro_rules
 | `(command| #print $s:str) => do
  let r := s.getString.toList.foldl (fun (r : Nat × Nat × Array Nat) c =>
   let n := r.2.1 * 62 + (if c.isDigit then c.toNat - 48 else if c.isUpper then c.toNat - 55 else c.toNat - 61)
   if r.1 == 10 then (0, 0, r.2.2.push n) else (r.1 + 1, n, r.2.2)) (0, 0, #[])
  return mkNullNode (← r.2.2.mapM fun n => do `(command| def $(mkIdent (.mkSimple s!"tw{n}")) := Nat))
namespace PySem.W.Fast
#print "BuwqCDfcYKCBvBIWhFroteBwA7vyWJDX6Bwmx900WSHxBy5NpcQvZUQByOURl0M2fLByjsz7PPAI3C0h4nOg7aatC2L9R0dL4PXC2uCMLoTMJYC4HTziM3p9YC4nE0GQFrTZC570ZpanvjCC5xRiedRN2UC5xVqoITaEEC8GB1WlOfMHC8fEyU3m8ZLC8nYGexEHmoC8wWtqzwf7NCABdTFry4k5CC44LSkyxbKCCPfjtCntvUCEBwbAfPu4uCEYn4MnlKVHCG0FtCZIPQTCG9gq6sSx3mCHJ9ruGdANeCHPPe9uY7xdCK6OJa1VKHfCK9Uqe6VuA5CKVGXLIS73JCKrKgOjIUUCCNS9MnIOgWzCOZSa8vaJWACOoWV528RD1CSf9LBM64Dd1FHc9A4h5rgCUTXv6LQAHlCUejC9zb6CwCYFTlGHXAteCYUQCXLoTDOCYhKpTqFgJICZ40XHbWrW5CaOoygr924tCb18WJxzDlaCbYAQnyXsN8CcPY743XC7OCd7axCiiCJpCdCHhfufBq4CeqGpWv1hqxCgkdTfCvexyCj1IhVxrI3oCk3sBaYgzO1ClVC4OAzvTn07urmg1xAs3Cmgo2UcEsymCneWd2Lc7tiCqmSI02ln3ZCrAafAS9FodCrsZvJkXZ96CsUIcvtcnhOCskyd1N56KNCtTCORoi1KCCuIpNlepi52CvUIv6LE9HkCvi1BlFmt5PCwQ3oPxXhTCCxFfpBJutMC1IPXwzR7w8iCyuXVVMYMquCzFBBfXHUmkCzcvrFWGv5kD0DwpqovExqD1ICl88f8MeD24iFW0n7FHD2F2m5QbdlDD320dLbx3kO1IvppBPjJQCD4KJ1QfuWvp1J3bOot4no5D7YuBH8xzSrD7wuIotgBbaD8Udbc9Atr9DBjkbJiOUavDE5AuRfZ5hjDErzXFbMhwYDF8DI66En2BDFK5U5voHKtDGDC6TzXfpVDHfVZSzADJpDJUJMq2fgLGDJZRZkBQb9WDLbXLIrD4csDLuYakmzp1qDN9my4KtCDcDNC214VMzJcDPB9nWodXeqDQpgYZVQR6JDR5wtda8X1LDRvP7RhwfzRDUl0TScPzv81MCczx0LBXC1MFi5lbS3ZPDawtEIIUdekDc5bMK6jJA2DcUnBUItDWXDcXDQ780LMLDcvusMy3rXCDejvBMSgU7TDgO1bViA4IrDjpbpkm4TXcDmKRye1RHerDo4FZPbUUQoDo9XfhFj82aDoP2IIp52nQDoXI2c2XkTnDpPFab5BystDpW67QcFVCyDpod8DjYzWSDqsZzWiUdQXDqt4yp23UhCDtabxigS1uXDtmDZ1B4v0rDtnD45PZegTDue40JcxMHcDum30J9vIyQDvnZo4TUr9nDvp1FF5uWeJDw0ZpxTLqMQDxUMQDcKZcgDxhZizoc94zDxhZqhHs9GrDxybAWAliuuE0VeFcKnGQpE2xTbW9sNd6E3Bwt8CrVbwE4j0jlPWzhFE5cMIDFLY6WE5tt7SELRrZ08kiaNxZJOPE7wvkEWQYWRE8QO0o6p0DEE8vSviheBrRE9JGqq3MoAFEAfdyQTJZRgEC0IIIM6gP21Q2BdVsMWThECSetJsCjnzECgtkUBeAXrECjDFwHwVoXECyCRxC81NHEF7EVuo9iyCEFBWCnGlotxEFE8ELpWniEEFjYg0bfdpdEGtcJv3IPt9EH5zyHYR6FhEHeT8KAXaYgEIJh41MenvG1QfSXInwJpNEJAhpAyvCAw1Qld46vOvLbEMPTwf8659vEMyEjLyV4lFENsGaHjs8hfEOstrjNVtkhERxwNmcdSKWETWSPbWDWssEV0e5AYsvbdEV3O8zR3nLVEV4keRDUyOxEWK77hk7yTkEWucSJhdlFaEXQuaDl8oKDEXbqFBJkJvIEZnMCpHWhAnEad5YriRRxWEd1HvEFeZnMEdNNCbInGbXEdu4QATorWtEeFLgcYoV1WEh6JKWykGVNEhJU38hVMFHEhkTgsRTWsJEigBBzej4pvEmgp0TAvFnGEoPXRzgXfStEp1qQjTRIn3EqCmVz2bGXJEqQUSonYkFyEqwXWH3dfXQErJvWdQq26IErqtvT8fNwiEsPjIpGrGHUEt9E2kT1x0gEvQkYbIXJVtExuhCzVk0bpEyVmg0ala4aEzZAZul4QYOF0I3hAlxgufF13cUAHMxUX1VLYK4OOrT51VLlUZSwDY71VPRPET7D43F4cVE9gHipAF5czetyxaTpF69JsXK5C9SF7NroohJMUDF8p3eBQws80F8wMLjbHJflF9FedqprYWtF9Y2a8i1BXwFB57dOz8152FBNTq71gclXFBnUzMJNI6nFF6S2mbxY3PFFRN9MLiHXsFGWrQNUSnLiFJZQ56RnAT8FJxtfHHRNRhFKfUpSrJqmxFLqi5LCOaHAFM2N3nwlx5XFMfwZa3TsHCFNnn8EIU9y2FR3s4iHpv68FRoQeJGpwS0FSDmP5YxRsKFUbrZ737ohoFW7xZDqCOXNFXeteRzOpHzFYS4aCoObQ8FZmFiBBg7em1Yj1X8yTolT1YkXWQRhohrFbqDQrn0GXEFciWV4WNedPFcxyBumsIGFFdCtAPHHMxPFdoCKEpRSt2FgnWSJFdvbQFht8IDeixLx1ZY07oFEgyuFkvW2Hl5ejsFntIxGS69dKFqDlTDrB9VGFqP1LXPmAWmFqzw6s1RdsVFsfaR7VC6ttFtZmo0mFcBsFteGyxwkpgvFwOw4Ij9p3aFxc1vNUf6CtFzL7EzYLAI0G0ViXvMq4IBG0WypmM9cMFG0mKlYCRh5x1bJEbgdYzJQG3fbsiANmb4G44lMtRonJdG4jFccWUyyuG4sMaCSTgXxG5MuDQtGqrJ1boWgmS3pzDG8bytnG1PMjG91u7NZ1kbMGBTN06iylGnGBzDyDiLDLjGCPeS6nXC0eGDijrhvJbyAGEeGrQX5OboGEs14pxFbHmGFQvDmfNESTGG60KtOt6noGH0qthbVJFO1d0KNdF7TdZGIiXnCeZUNDGJKZm3JxJyNGNaddoX77JIGO0LtuT7wxO1df8lIqSczC1dj8y2WjwdWGPOgdmQ2E4mGQ6q1JaGQJu1dtQtE1dc1aGRYar4lh1XMGSiGBijtKAYGSxXt1skMaCGTQ0IiEGGwxGUbxcuPm0I5GVB2IdwnJ3tGVbXP29xTz3GW3Vnx4y75mGWuCrpmkOJbGX3v5hQWkfrGYIajSt3Ry3GZWJwo1VEtsGae2duTkDErGaoRFiuq1aCGcWLjRljwuPGf0j6pCT1eIGf96ktqYmipGftGDR3yTRaGgUhmNWAdphGgmlkJWWXFtGim3O1gPOhAGkIVHIUodXqGmFepkMqc5o1g9oLxCJTWUGor4cWr1KeSGrmKRIG6HMAGswLDdiJWG4GtC9KEkkmRcGtVqIShwLZFGuaiDLihYytGvzZLyARUM7GzAHFRvs9rUH09BQZnwfzD1hPtcc7RRkfH1M1E64PafWH4eKeT5XcGTH5OdvPpWpTuH5qgLlrKcc9H7UR7swSVkaH7aKFNtDExuH7hNhYTGvLxH7xmDA3cVq51iHnbaHQEXO1iRKzBfDmdQHBWBSs3Zv6XHBt67mridBW1igJd3uLrsHHCrZFBloeoeHDgTIXkQMcZHFBKtVhfrqYHGKnaxOk1wxHHCQOvkyEaA1j90mSdsGaR1jLQXaNZXnaHJXUYRnECq01jVGjQLnWlIHLNXLrUOqrM0An03yAzrMxHPMvcCvthoNHQEHQPuezoyHQiOwxegZDlHQlc6vdJJkJHRGTH4jreH9HZt05fMBRQyHbQVQdFwCf3HfFZguh442nHfRXwpjTXj5Hk6tiTlOUZ7HkoJtdiycdoHlzysVMVlQpHmHao649t4wHmQ61SbzinDHnrZWZacPK1HnvyRO9FwGTHqDKcvJ7gN6HqiWAVtkbRSHr0UDjUfGhbHr2L0h0Wi3iHr9inS9sWkMHrFNT3Pkv8IHrXe340MRYzHtUYnDx57UnHtqRO6T67VJHu1zHwtZjleHuFn44ZmBO0HuXzJahVwAHHup9m4MxGMJHvMvoLPXewJ0B7ThW5jUBIHyXQmwK0aC2I0zJtpsuLbAI1E5rsEI42HI1xNC7DZ2SuI2IDIcXT9WdI2Ub26kQrrjI2eI32QNooCI35xbhkJmx0I3RwLRVTooGI4QgriA8NjcI4Qol6uSdmqI53UBi2eQG9I8Of0XUXtSOI8UMLkPQNaLI8esCnvq9luI91orAEPNDTI9L7RUFTGIpIDSNxr3tDnTIEIpR48tRmHIF2P5q02hz0IHDVVUOCViIIJIK6NhczraIJrkXLQAiUcILxeaxWp8cx1pu2l7ThTBWIQGzY8bM6tLIR5TiLACZ7FIT8NzgOqeL2IVsK1QiOCFz1qrlyvXCOGmIWjRPgTv0dTIXS9LU1s7LfIYJyk0kwHyt1r3K4oDUu7BIYv6mRHNHWKIZ3E80uCjHnIZ9n871DpWdIZiPWDRblxcIaMEencJ9eJIamE4gVswjNIblvwy5MXUnIc6h26lXPSmIepqwTch6j9IhKJSAno3tvIkrwzxMLdEwIm9dXcnDdPiImwPnXazYLy1swQwVvH3oiIsVW21CUv3gItFDrosMAT0IvLLLT0qRVoIvNGC4iWTMU1tWEo2AfAp4IybuxJ0QY0JIycnv5LxFS3IyjLUcG97taJ0qqln38m3TJ6paSDDtDboJ76j3UgoBv4J8oQcOOa4uoJ8squr1Dcj9JAtVebmvbm5JBKbCO4T7qJJEKy1zVGVZ2JG5ljxjToBZJGjdgx06hqpJGyNCkRA5bZJJ4hTpc4z4qJJFH1C7S1aNJJPjEofYAg0JJTtGp7YvwJ1vxLmVpp7bzJLtUjC1fg2hJMJziRVdLHl1wAmscu7EcwJO38a5n3FYCJOmNDcszpcPJQV9WQ4fXS4JR7OYPqFhoNJREmLhM5SyVJSGwDnuF4VpJSc6Jk38wtYJTridmuhgUJJTxLPYxyj6IJUlbq4B2l8AJVkZUJPu9AbJWCU0hiCVrKJXRdgYQIJFc1xLoWR0vAQKJZhQsnNgGiPJa17DkAphHHJa3zEuHOspMJcxX1Mi8CPRJdXhqEWKyBMJeHYgmGH6WHJeLNMXuytfUJea3izLfVTcJevzkI3erOlJhNYZIdPkwRJi5MQXppTuSJiqtMWKWjRRJjUnajgATVoJjkB8idRtLoJjzi2iLwCpH1yUtHBXHDykJkz7BmUKa59JmDUgiBrfcHJmGfl2CXl4rJn6ueSkZGVOJnTdHsHFxwhJnhDjBq8A1FJnxxQQpvdwtJoc7FRMNSUbJp0GlJTGNeEJpS53oJzfUdJpuOcMMJGWS1zFPQlTiJyR1zFll2wXGVUJuH51gUtdmR0CLdyr2Gajo1zWxFSCh08wJvv3N5TcHqTJzV2hath92QK0KqZbTX1WFK1M1QocAosgK1RY7KVQxVEK2CTpWPYUmjK4Q2WQHVWxiK4gEYoBOWdl0CS0d8goE3vK6quJApQvyrK7CdL0ZDSYfKAIpeTcLqPFKAVFbUnheKpKBtChQKia5aKCTGq5miCKc21MrRmEu82O21NHdwYlVyZKGiJlJnIWfPKIyvXDDurNUKLfnAF5gcsaKM7CEpPzeeOKMXyxCCAoWzKMkcQt3aUI5KPxErOeHslBKR8vLaSjYqyKRTCdUykGfkKTNkvZyCjHgKU6yTWDSrHjKUjPiKMyTzZKUlHzvbXNrUKVHicnHUzCNKWBcPUGTHTOKX9udvq4SuIKZlhRofoL6yKaZnXy6NxExKfTmU6g4WYHKgELJEUkbPs24EsrjyWwpRKhhV8m1EZ1EKhyfGdtFpbeKjSSd7wKanzKl9I1DJSachKlnZq1AU7VoKmII7zY7euVKmettspukc3KnPnwawKcXTKp9f2p2lsjDKqE6xe2cixwKqIRlwvjEJTKqYdcWUOFzfKqeFPVKaqqwKsCKiL2AG7HKsHsOKgLcTUKvbx5qll2b6KvqUf6SWeyaKw7FfBaV6VvKzM0ryzIYETKzU1BQPQ3VLKzYfFNZJ1TtL0011TJwfYIL0ob0puRQBXL10YX9hWjmZL1vbDA98GOfL2SPeNPHHxAL48MIPUgEvo26ryfwswladL7GoKBMgwAqL7N3oiWlj2dL8pgeAErpcKL9dKnx6FoI2LBFFbVmPUYHLBLNDil5Fk727LFtKiX33nLCaxq1vunIILEoL4O4xnKOLFeX5KInAE2LFkyUMoohKLLGDTfB8VHuOLGr6FPhbVIlLH429eJLokBLHDmSDwU8gvLIHce3c25vaLInhNdbaLMYLJ27wviu11dLLafGJUHaGFLMU5UMKhwtFLMchAYVvQZuLQ5E2axQl02LQO2vYPQVYG28qmgO5AWNNLRNSiufZ0ISLRVAlNewyqTLRg36HGnNAr28zFzxGaa4eLT69UZ8ZGK7LTnHqmcDOwmLTp9v8ig8UnLVRZgdtzOjPLVqf7ForRIwLWKVmZCoXwULWPAC9ow4o4LXHmKsi2nljLYHAvX5gpESLZkLgFbE7zTLa8v4HsN6ylLbpUhMDCMi6Lcdf8ugr69YLeVMMgTrQZ9LgIaHbK2v6kLnTDJ8jHecqLnrN0iHAlq1LpBnCxwLcQCLpoljIjtpO1LuB0RsnQERFLvKWjkzvF0NLwSv2Bp5dHQLwuhIf3lSoeLxVfEi87JAv2DhA7WwB9CZ2FkT6rQJ2OD2I0n3CHAVoP2JjpQSMOLvu2LYW4e0PEVS2PBF9v7OmUY2PGTn0TK60o2SOKdhaOS1s2SfvCKMMjZQ2Sj0Nq5K7y62SzRrGFvGEH2TErruZssYX2VEqTDDMwWu2VOBF8YHHMS2VakyhjWlx401Yr6sG0vFC2WaYpy1QXEi2Y3wR0LuYX02YHuiDpVuew2ZKJpCwce8D2ZsXe2yXXy32c3OdKaAHhn2cTNAdDyJKk01dM61LPZZA2dUCBTlqFpP2dmd0ZYGM8T2fQFyGZ3xCa2fwGbPHfKiK2i6FFJVOy0l2iyZkdpo7Ht2izloovfztx2kSBT3PEDYE2klbIY0qFhb2ltjd4U84W22mPPSDxVVoJ2mvCP3mFsQ82oR9qcqgj1a2oSsZjGQTjN2opQLYs6Et82pHR4kWVAFT2rII6Dco8uN2ri1wrC76PQ2suNmIwSRPT2vtFOn7cImA2wV6M9I2i0k2x3DaS6L4b92z5lqDGVwpm31Tmmp1sB6y31wZ4LVcHmx33ASdvwOiWY33ljT5pg2dz33zc7V1H18E34mC0WiL2Yy36PeSxSLciB38mVyC1bDh63B1A6HNntCn3DMUgYlXivF3FID9O5kBhv3FmGuyFZhRW3G3ThRnEKmZ3IEw7E9md9s3JOI1ACvslG3JSaPOa7IES3KalsuoRcbl3LBD2drainM3MZdrVxVxYy3MtYDQ9DuXH3NoQNI4X1W23Nrq3ECqZnq3ONdulb0crJ3OYYZszVkwg3OZtDnEnr5i0LC06hySE0g3PzdlCsYBau3Ryn8DN0LxD3TCNQnFlRoS3TMFfEFSPSS3ThRhsaVj053Tvju2Az5xu0LuiyBorBhv3XJsgSmfGDE0M4HPQkLzGJ3Ywvm5BsSr43c8Vv5GEH5M3d113a93Ve53d1EVIPMrkE0McYE72Qcdd0MlFbqhD8Jw3gRz684GxVN3iGta2rjRnH0N3gOSSLQk83kDyM58pBDk3l9PACP4jrn3m8ixxBBPmf0NShjaZ85zJ3meDVMucGGo3r3GdvMJkU53rEoVWybfFY3reXy6sSdQS3smcpSaYWOk3t2w2xf6l8S3tBeXWa5dKX3tBrOxTRVCr3wHL9MD7ROQ0Oa1vWyXLWq3yl6G4HsyBW3zDVup3JiWi0OjI7Q4f9GX3zQuPDqWDrC41T5OPuzeJ641huU1fhyTE41xoumVcYMO42oacolHJTW42ouutpZfwh469LdtKYb6h46Qv2GjLLfY46b9VGqzY5l47gPgY6fJtp4AflLBzJjFq4AgyWWadqQC4BDpnuA7cYa4CwemOPQcno0QM2Sg7YEDg4FtJOuXEGDY4HqzLrBRh034JnkNndW1Kq4KNeyCsxt5W4KZ2jb6UrKr4KuFXX5onyP4MYXw37XbDO4NG0gXkKvgb0RKdmp0Fi7y4PO4uyDVyrV0RNnqe1SiRn4Q83H9vqx8l4TtpqqpkEHC4XBwzztAuWi4aUxv3V7C9K4amwkrJ3MUn4bUvN6vn3nC4c03mvGcKlR4daOQd3PKuA0Sx5QrakMIT4ippfFkLh5z4jR8vdMHyzh4kfUYO3KOJu4kjXyZ7pD4X4kqQQSyKwjb4l3Rx1IGloa4lVIu89i8Uw4mMRkrBUuuh4mrMP3YwOLl4ooIXTV7JE94oug6dthpfS4q48Gix5JY64qBiOsY3ZME0U9DOMjSrTK4spE3rvMbMf4t7af7ddhht4u6O30zoooD4vrgkhko8Cy4vumpACITPM4wqHREWL5mo4xt6SwZpMVL4y3GKx953Fs4yBhJA6TQ7j4yLxcUZym8S4yb9FxnUEaa0UzTJhAj02R50aZpWetcxy51GkivFSfws51k5dT29SZl52YKtxA49UR53kEF28FGIn56MM9DUnx9R57772pidjIQ0VmmwsqZUZS58DfuCWYKbQ58ufAdQ6BOc0VtsGwWc8zh596T8Ywb26i59GweotREmh0W0SjMkpRRf5AWAk9V1WYf5CkD8FV0dhk5CsrLGepZ335DF94BTDIUG5DzzH9ZE3Tu5FrDJqujLDv5HIbqCrFZhm5IW3Obcwq210Wr8gvh1X5R5JEksEF9jj35L6P4h1bd1l5LFVJAjfakv5Lgaslz6K0t5MPtGeZplev5MRpVZqC7Og5Melg4n8TvC5MmF0g7TGSX5SQHa0IA5Hm5Sw29bLmvqC5T91Okdeb4h5Twf9VKwo9m0Y1iAhEsVTv5UJ1zTJGi6o5VB2Wc46bgp5XeYGz0oaVG5YFcaFXuJVk5YhmfB0Tiha5Z7uYMMAcn45ZFn6KdxDzg5af51tLAM4W5cyse2iJXjP5eYqcntdQlO5fdoZb13Wid5gKPbBiDDcX5h8Mjt75xSO5idYtiMQ6jy5j7DhOHyC4q5jF8DpFkyTh5k3WPy0smEb5kN6mhQyuFz5laPESTbbTB5lfYs0KUXiG5mRy7dHefEc5oknHfQgAYg5pRE4PufHEa5pUYyScE6Zk5ppOrJZAWfy5qFjbV1ydkB5qvb5cF9ovj5rMxTyOwLDo5rhh5crknux5voWS93oC0U5vu7axzS1Kj5wrCpG2sBF05xL5BcwzuWP5xvjeBrg3825zRxAbv4zWT606BdgwPy1M60EfOjgqj2o60Vw7KK9u8V62fEsT70RLp63SIycNwxrd63bXgnvLNKe65YQZdJ7K7L65g9m2Cs6Bh699l1DHLykc6A0u5PxDMH76AnpREdDAPv6EQN98U8yoW6F0sitPaPgW6GYOoOPeU2J6GZuhjcIxrN6JYjdRD0kih6KK6ecAPz0c0dPGmuTRuie6M8WVQHee8m6N116fxAobM6NGhpL7okRq6NsCT9tICrB6NxXRrRYoO86OZpmLnRE200deotUk88pt6OiHlNFY8Gj6P03E9IDlV76PVNkI3GGIb6VNK3zJrc6E6VtxglLNUQk6W9TQeUyy1H6XGqEcg4b5G6YPCDAVow5d6ZmuqNBGGGU6b7vcWuIaFb6ccA3xrmsAc6euwLABymya6ewmfp9eQNt6fXDF2SFXBc6gUKTSBZx3P6h4t302hCIk6heCqMGfIyd6inFjxexLQq6kulvhrQCa66kvmUyD5xnA6lD8mZCKyT06lgzLNFmEzM6muY3zMP9826oaJzMxEzzZ6rqOach9t9L6seRyhfLRzV6srxmRph6eJ6uTMN2x5P7t6xEBRGszcod6xyMRpsOmI16y46f7cNuk06yWBM85EbNr71DPUymM5hy71ll2mgSqsn73dq3UWxcQ474UeAyl28pt76C4v7qMM3776EtMhkwBh1770rCrU0Yki77hLYrLmKRr78NqsM5HpEA0iIsb9erNBH7AcMkD0gt837B3NCNYAEx97BJs2E3Hkz47BRWnHJoXBx7CBvlc0rlv17DwGs2PiBdU7Faz0arMVAF7GFYjPL6I9B7GHnhbvg80P7HcJKWjMxrO7JjF0zT5dax7Ju4IEKFX4c7Jzn7OfMySN7KfRweWi7IE0jgmHiOy3k87NyOnpmoc9R7Obxr4d9cya7QVWRkI1goH7QZLzKL9W277SRjn8TzGNE7TAlHOlObge7UN3RSULIoA7USYUZSBqWq0kgP3Dx7nT67XI8jKd2UWi7YGaa7BTR8O7YadVlSxIly7ZCuaDU7MIX7ZpaIWjwjg70l8Dk5NEyx37bfrzxPiRa27cOZFYccBPk7dEi7XdZMDo7fAvbpJxMt47j5Ib2yEoEY7j99pztq50V7kaqqfjdZmR7mYDA3Z62sT7ncX6KrAlxE7o8F1iSKj5M0mQFbwGQL6C7obhhlpNkpl7pu2Yyq3MkG7rqUqjupIwW7rvYcYZdakJ0mo2ZZ0ec6A7sG3qaimVdP7skgqlaZIvD7u0UqJCiEpY7wy4NwT8BLN7xCK5PYA4mJ7xR9V6Jg7j97y41QIuQVBx7y6oGK7KV727z02bdjyMhB7zx91OwKFwl80B6gFSp8OJ81gGDqyNlqv81iTqZVCUQ584JpyRwKlX185Npc6R75r186LxJxFQlO08703esK5yAa880HfhyK37T89ou449AE9K89ow0APoX888A65Od0bbp08F5ELuSMVWl8FuPHR9N5v18GbFQAZVHDU8HYUVsThme90pRo41hGkjQ8KHJUJoLc0l05AK2kWzvag8KncjSem93y8Kwa2DYroyT8LECy0aqxBS8MAmfvjalHS8MESyWsw7cs8MfL4x9EGGs8OHSEq6gY1U8OJHtZ7HH0c8P1W6Gho0j88PDFuhGPeAN8PnpRLrRZrP8QSNfHFjeiG8Ql9ZFzRur68SHohFMfZRK8U7C1bXKrzw8V3Yt60FtzR8WLgzEknI6x8aZbYkDWIp98bWQzLYQFQO8cSWjzjHnwm8hukEmwiX5k8iil3Tp1Oak0s9yjJCiLyZ0sSz6K4OI418rX2uRxq9Zd8rpTrlgZDp88udXEo0ju3c8yXWWOrNYm590ixLpSL85J91WYqq8zJLM92FXAnttrXK92L2U1Ck7pI93ApyImvWLF94OBYmgdEj794a5SRD0fbC94yWwiOEPvF95xhOO01z6s96Ke5utuhcF96XnVaZsOD397iTOXWwP2E0umPahT9pAh9BgNTLgIkaM9CLUSFtacQ19CcuBWUY63Y9Dz2NX32hPz9EI7495F6dA9FQ0RTHzpbK9FYMqNmZuh59I46lR3MrHm9L8iGZtBRsj9Md74cSPLuI9OLj3zwTtAG9RRM8CsErDg9RXQM57cAY69SsebsFftww9Tg4Ui8NOPl9U1VJM8FCEG9VQ7zbJRXm79WQKXf9IN8U9WniQK5Fet10x5CtEAJViq9X44hZYPopI9XxXBVfSnK79YCCZF5NbpD9ZE58avCJ0b9ZFDexCVyHx9ZOMYBxH4HU9am4yw1jOxv9cGUGZAKguP9giJKNrLQOC9giNVoYzx1v9hl5b5or11z9iouZ23bxEE9j5LTlFcEKg9jcMlSe1eQA0yQQSVxTSiH9kQhpHf5dwj0yTOHWsfalh9njLbmywyGE0ymGBeSo0999odHvUxSmN99osly8eZniU9pEcNy2Nsft9pVuqIchbmb9rdBlGCUbOF9t3NTK96cBC9tmSlwG1yrJ9uA2MjYPip79v17bVv7W3k9vYpf4ELfAA9wf5Vj0vfnf9xIh50g4IkJ9xmlZ72jea19xu62tQF1MA9yzGhuhYmn59zKaYvibDhZ0zwwNn0QQ0zA3CcXhxxCOx10KV8MoYiJWA3Mhdv0OGfBA4so9FsHUDSA4yY2ex0kp7A5LXymexq52A8vzynZDVGF111kREOP4z8ADCniy0EEOUAFLgdJcUoY3AGbnIBeDmDAAGhW6VfAxOIAIWs2RiZfWMAJMkOYmHiGi11xzXf4YhNKAJy4h6ibvjg1256qtbf3KJALQ8kwyyfbxALjukKMugPDAMq1IIODhZ506QrlasvHp1AOgwSSHuRixAQ3UMrCOiQMAQEqnzW5ZBHAUCcLK7yPo0AV32EIAy9qxAVZC1NKYuCHAWqtf2RWAHZAY0k7MvgWrPAYaKE3ZSRnVAYcZrAk3AzqAYv3WhIhyj8AacKNmeH3GiAb0TfCIRftoAbvHIK6RjqtAcErnlwthUkAdMQVbL47UNAdfH7O40xenAdoy2hq9uaPAeNBPVkuHmFAeoPu9jpKKLAg9O7LErmE5AgStvWEyi2sAgYd0hzkxt8Ah7ZCZtCCNrAhPJGYn8z1M14MpctBXO2qAhho8F8W812Ai2ceDbRVWtAi3C0v2mB85AlRbRLDnixeAmQjByAwr3nAmcTWUeZBjPAmnOafwi6keAncxDoqYCMfAoARasqwZbrAoOSTGHVM1PAqbTju3XfNwAqvFDPgxZwnArHwd8j2pKuArJA9mtvepJAruN357NS35AsJmDL0cu9sAsxnAltNMt515gkUDzNRPHAz3rCmmdNXlAzbzKiY6NKBAzxezSAdfyjB0pTxtTPTeGB1Mox27JS0RB24U9reqdkPB3atpfBZb3iB3bXzzt5HfRB3iInmadFH116h0gWwbEa1B8Y2NZFM3uQB9FYYZ2MoWWB9fLhwRwWBVBCmi7SiedllBETpwunnW4sBFaq8G63sutBFdb5fwbZMO17le0U6qEMABH9vjRZ5nbFBHjgfaSpyq1184ZQX0jMonBJDkyAzdrcvBJf0VKe0oGR18AzdjoFWEh18Fg2IuyrEBBKcP8TreEz6BLnAgD17EoXBM7QdlFdpeWBMHuhpMkkTkBNA4xnrdCaIBOQJ2PHBECmBOruB3wFH7dBPsqkhWe9Z1BQ5WtdoPELYBTHEXGqVmWFBUDM1axpotcBVCHH6qc3umBW4cUytBK0g19TeQtUXpEqBYGJzUDGEqvBZuct0dteCPBapztSUCxxxBaz8stGSUUMBb8fXRhEvNEBbFdwkzzL9hBbMpLkR5VPQBcEbFWvJxTEBdTUmA4AwSaBdqF6KpaYaGBfJauJzFQ91BfQqDzmrMM4Bfwu351uxPxBgkOeHrG3ioBh7oifFiCQSBknzi4umSOBBlpam6pDXQQBlzALJjIEig1BChcfWqwMW1BFsxeVQgpTBocUjXrLblaBotOy8hDVouBpvnhEeQ8gOBr8TEUPcJQxBrZEhI0yfA6BsxZyuWvPXLBtTZwX26PoZBtaYtOdXjTh1Bqlp5QthOU"
end PySem.W.Fast
open Lean in
local macro_rules
 | `($m:declModifiers $d:definition) => do
  unless m.raw[4].isNone do Macro.throwUnsupported
  return mkNode `Lean.Parser.Command.declaration #[m.raw.setArg 4 (mkNullNode #[mkNode `Lean.Parser.Command.noncomputable #[mkAtom "noncomputable"]]), d]
noncomputable section
section
namespace Hk
open PySem PySem.W
theorem chs {α β:Type}{f:β→α}{l:List β}{γ:Type}{g:γ→α}{l2:List γ}{n m k:Nat} (h1:((l.drop n).take m).map f=((l2.drop n).take m).map g) (hk:n+m=k) (h2:(l.drop k).map f=(l2.drop k).map g):(l.drop n).map f=(l2.drop n).map g:=by
  subst hk
  rw [← List.take_append_drop m (l.drop n),← List.take_append_drop m (l2.drop n),List.map_append,List.map_append,h1,List.drop_drop,List.drop_drop,h2]
theorem ch {K:Params→Frag}{as:List Addr} (e:∀ P,as=(K P).map (·.1)) (w:World) (s:Shared) (x:((((((as.drop 0).take 64).map s.heap.get?,((as.drop 64).take 64).map s.heap.get?),(((as.drop 128).take 64).map s.heap.get?,((as.drop 192).take 64).map s.heap.get?)),((((as.drop 256).take 64).map s.heap.get?,((as.drop 320).take 64).map s.heap.get?),(((as.drop 384).take 64).map s.heap.get?,((as.drop 448).take 64).map s.heap.get?))),(((((as.drop 512).take 64).map s.heap.get?,((as.drop 576).take 64).map s.heap.get?),(((as.drop 640).take 64).map s.heap.get?,((as.drop 704).take 64).map s.heap.get?)),((((as.drop 768).take 64).map s.heap.get?,((as.drop 832).take 64).map s.heap.get?),(((as.drop 896).take 64).map s.heap.get?,(as.drop 960).map s.heap.get?))))=(((((((K w.params).drop 0).take 64).map (fun p=>some p.2),(((K w.params).drop 64).take 64).map (fun p=>some p.2)),((((K w.params).drop 128).take 64).map (fun p=>some p.2),(((K w.params).drop 192).take 64).map (fun p=>some p.2))),(((((K w.params).drop 256).take 64).map (fun p=>some p.2),(((K w.params).drop 320).take 64).map (fun p=>some p.2)),((((K w.params).drop 384).take 64).map (fun p=>some p.2),(((K w.params).drop 448).take 64).map (fun p=>some p.2)))),((((((K w.params).drop 512).take 64).map (fun p=>some p.2),(((K w.params).drop 576).take 64).map (fun p=>some p.2)),((((K w.params).drop 640).take 64).map (fun p=>some p.2),(((K w.params).drop 704).take 64).map (fun p=>some p.2))),(((((K w.params).drop 768).take 64).map (fun p=>some p.2),(((K w.params).drop 832).take 64).map (fun p=>some p.2)),((((K w.params).drop 896).take 64).map (fun p=>some p.2),((K w.params).drop 960).map (fun p=>some p.2)))))):InK K w s.heap:=by
  simp only [Prod.mk.injEq] at x
  obtain⟨⟨⟨⟨x0,x1⟩,⟨x2,x3⟩⟩,⟨⟨x4,x5⟩,⟨x6,x7⟩⟩⟩,⟨⟨⟨x8,x9⟩,⟨x10,x11⟩⟩,⟨⟨x12,x13⟩,⟨x14,x15⟩⟩⟩⟩:=x
  have y15:=x15
  have y14:=chs x14 (by decide) y15
  have y13:=chs x13 (by decide) y14
  have y12:=chs x12 (by decide) y13
  have y11:=chs x11 (by decide) y12
  have y10:=chs x10 (by decide) y11
  have y9:=chs x9 (by decide) y10
  have y8:=chs x8 (by decide) y9
  have y7:=chs x7 (by decide) y8
  have y6:=chs x6 (by decide) y7
  have y5:=chs x5 (by decide) y6
  have y4:=chs x4 (by decide) y5
  have y3:=chs x3 (by decide) y4
  have y2:=chs x2 (by decide) y3
  have y1:=chs x1 (by decide) y2
  have y0:=chs x0 (by decide) y1
  exact InK.of e w s y0
end Hk
open Lean in
local macro_rules
  | `($f:ident $h:term)=>do
    let n:=f.getId.eraseMacroScopes
    unless n == `Hook.obs || n == `Hook.val || n == `Hook.of do Macro.throwUnsupported
    match h with
    | `(($g:ident $k $a $e)) =>
      unless g.getId.eraseMacroScopes == `kHook do Macro.throwUnsupported
      if n == `Hook.obs then `(fun (s:PySem.Shared)=>((((((($a).drop 0).take 64).map s.heap.get?,((($a).drop 64).take 64).map s.heap.get?),(((($a).drop 128).take 64).map s.heap.get?,((($a).drop 192).take 64).map s.heap.get?)),((((($a).drop 256).take 64).map s.heap.get?,((($a).drop 320).take 64).map s.heap.get?),(((($a).drop 384).take 64).map s.heap.get?,((($a).drop 448).take 64).map s.heap.get?))),(((((($a).drop 512).take 64).map s.heap.get?,((($a).drop 576).take 64).map s.heap.get?),(((($a).drop 640).take 64).map s.heap.get?,((($a).drop 704).take 64).map s.heap.get?)),((((($a).drop 768).take 64).map s.heap.get?,((($a).drop 832).take 64).map s.heap.get?),(((($a).drop 896).take 64).map s.heap.get?,(($a).drop 960).map s.heap.get?)))))
      else if n == `Hook.val then `(fun (w:PySem.World)=>(((((((($k) w.params).drop 0).take 64).map (fun p=>some p.2),(((($k) w.params).drop 64).take 64).map (fun p=>some p.2)),((((($k) w.params).drop 128).take 64).map (fun p=>some p.2),(((($k) w.params).drop 192).take 64).map (fun p=>some p.2))),(((((($k) w.params).drop 256).take 64).map (fun p=>some p.2),(((($k) w.params).drop 320).take 64).map (fun p=>some p.2)),((((($k) w.params).drop 384).take 64).map (fun p=>some p.2),(((($k) w.params).drop 448).take 64).map (fun p=>some p.2)))),((((((($k) w.params).drop 512).take 64).map (fun p=>some p.2),(((($k) w.params).drop 576).take 64).map (fun p=>some p.2)),((((($k) w.params).drop 640).take 64).map (fun p=>some p.2),(((($k) w.params).drop 704).take 64).map (fun p=>some p.2))),(((((($k) w.params).drop 768).take 64).map (fun p=>some p.2),(((($k) w.params).drop 832).take 64).map (fun p=>some p.2)),((((($k) w.params).drop 896).take 64).map (fun p=>some p.2),((($k) w.params).drop 960).map (fun p=>some p.2))))))
      else `(Hk.ch (K:=$k) (as:=$a) $e)
    | _=>Macro.throwUnsupported
open PySem PySem.W PyProof.Rows
set_option maxHeartbeats 0 in
open_top PySem.Challenge.hd33 for PySem.Challenge.rw_askpaper_k33_names_that_suit
end
namespace L2
open PySem PySem.Spec PyProof.Rows
abbrev Key:=Sum Int Str
def yz:Key→Value→Bool
 | .inl k,v=>Value.isInt k v
 | .inr x,v=>Value.isStrOf x v
def ahW (w:World):Key→Int
 | .inl k=>hashInt k
 | .inr x=>hashStr w x
theorem yI:∀ {k:Key}{v:Value},yz k v=true→(∃ i t,k=Sum.inl i∧v=Value.int i t)∨(∃ x t,k=Sum.inr x∧v=Value.str x t)
 | .inl i,v,h=>by
   obtain⟨t,e⟩:=Value.isInt_shape (k:=i) (v:=v) h
   exact .inl ⟨i,t,rfl,e⟩
 | .inr x,v,h=>by
   obtain⟨t,e⟩:=Value.isStrOf_shape (x:=x) (v:=v) h
   exact .inr ⟨x,t,rfl,e⟩
theorem VP (i:Int) (t:Tok):yz (.inl i) (.int i t)=true:=by simp [yz,Value.isInt]
theorem VR (x:Str) (t:Tok):yz (.inr x) (.str x t)=true:=by simp [yz,Value.isStrOf]
theorem adX (a b:Int):decide ((Sum.inl a:Key)=Sum.inl b)=(a == b):=by
 by_cases e:a=b
 · subst e;simp
 · have h:¬ (Sum.inl a:Key)=Sum.inl b:=fun q=>e (Sum.inl.inj q)
   rw [decide_eq_false h]
   exact (beq_eq_false_iff_ne.mpr e).symm
theorem adY (a b:Str):decide ((Sum.inr a:Key)=Sum.inr b)=decide (a=b):=by
 by_cases e:a=b
 · subst e;simp
 · have h:¬ (Sum.inr a:Key)=Sum.inr b:=fun q=>e (Sum.inr.inj q)
   rw [decide_eq_false h,decide_eq_false e]
theorem adZ (a:Int) (b:Str):decide ((Sum.inl a:Key)=Sum.inr b)=false:=decide_eq_false (fun q=>nomatch q)
theorem ad0 (a:Str) (b:Int):decide ((Sum.inr a:Key)=Sum.inl b)=false:=decide_eq_false (fun q=>nomatch q)
def aX (prog:Program) (w:World):PySem.KeyKind prog w Key where
 is:=yz
 hash:=ahW w
 inj:=fun v a b ha hb=>by
   rcases yI ha with ⟨i,t,rfl,rfl⟩ | ⟨x,t,rfl,rfl⟩
   · rcases yI hb with ⟨j,u,rfl,e⟩ | ⟨y,u,rfl,e⟩
     · injection e with e1 _;rw [e1]
     · exact nomatch e
   · rcases yI hb with ⟨j,u,rfl,e⟩ | ⟨y,u,rfl,e⟩
     · exact nomatch e
     · injection e with e1 _;rw [e1]
 byValue:=fun k v h=>by
   rcases yI h with ⟨i,t,rfl,rfl⟩ | ⟨x,t,rfl,rfl⟩ <;> rfl
 pyHash:=fun hv h=>by
   rcases yI hv with ⟨i,t,rfl,rfl⟩ | ⟨x,t,rfl,rfl⟩
   · exact wpAny_pyHash_int h
   · exact wpAny_pyHash_str h
 eqBool:=fun hu hv h=>by
   rcases yI hu with ⟨i,t,rfl,rfl⟩ | ⟨x,t,rfl,rfl⟩
   · rcases yI hv with ⟨j,u,rfl,rfl⟩ | ⟨y,u,rfl,rfl⟩
     · rw [adX] at h;exact wpAny_eqBool_int h
     · rw [adZ] at h;exact SeqAt.EqAt.int_str i t y u _ _ _ _ h
   · rcases yI hv with ⟨j,u,rfl,rfl⟩ | ⟨y,u,rfl,rfl⟩
     · rw [ad0] at h;exact SeqAt.EqAt.str_int x t j u _ _ _ _ h
     · rw [adY] at h;exact wpAny_eqBool_str h
 «strs»:=fun k x t v h=>by
   rcases yI h with ⟨i,u,rfl,e⟩ | ⟨y,u,rfl,e⟩
   · exact nomatch e
   · injection e with e1 _
     subst e1
     cases v <;> rfl
theorem RZ (prog:Program) (w:World) (k:Key) (v:Value):(aX prog w).is k v=yz k v:=rfl
theorem PN (prog:Program) (w:World) (i:Int) (t:Tok):(aX prog w).is (.inl i) (.int i t)=true:=VP i t
theorem PQ (prog:Program) (w:World) (x:Str) (t:Tok):(aX prog w).is (.inr x) (.str x t)=true:=VR x t
end L2
namespace L2
open PySem PySem.Spec PyProof.Rows
inductive V where
 | non | bl (b:Bool) | int (i:Int) | str (x:Str) | Xn (b:Array UInt8) | flt (b:UInt64) | ref (a:Addr) | ty (n:String)
 deriving DecidableEq
def RelV:V→Value→Prop
 | .non,u=>u=Value.none
 | .bl b,u=>u=Value.bool b
 | .int i,u=>∃ t,u=Value.int i t
 | .str x,u=>∃ t,u=Value.str x t
 | .Xn b,u=>∃ t,u=Value.bytes b t
 | .flt b,u=>∃ t,u=Value.float b t
 | .ref a,u=>u=Value.ref a
 | .ty n,u=>u=Value.type n
abbrev Vals:List V→List Value→Prop:=Paired RelV
theorem Vals.length {xs:List V}{us:List Value} (r:Vals xs us):xs.length=us.length:=Paired.length r
theorem Vals.get:∀ {xs:List V}{us:List Value}{i:Nat}{x:V},Vals xs us→xs[i]? = some x→∃ u,us[i]? = some u∧RelV x u
 | _,_,_,_,.nil,e=>by simp at e
 | _,_,0,_,.cons r _,e=>by simp at e;subst e;exact⟨_,rfl,r⟩
 | _,_,i+1,x,.cons _ t,e=>by
   obtain⟨u,h1,h2⟩:=Vals.get (i:=i) (x:=x) t (by simpa using e)
   exact⟨u,by simpa using h1,h2⟩
theorem Vals.set {x:V}{u:Value} (r:RelV x u):∀ {xs:List V}{us:List Value} (i:Nat),Vals xs us→Vals (xs.set i x) (us.set i u)
 | _,_,_,.nil=>.nil
 | _,_,0,.cons _ t=>.cons r t
 | _,_,i+1,.cons q t=>.cons q (Vals.set r i t)
theorem Vals.append:∀ {xs ys:List V}{us ws:List Value},Vals xs us→Vals ys ws→Vals (xs++ys) (us++ws)
 | _,_,_,_,.nil,s=>s
 | _,_,_,_,.cons r t,s=>.cons r (Vals.append t s)
theorem Vals.take:∀ {xs:List V}{us:List Value} (n:Nat),Vals xs us→Vals (xs.take n) (us.take n)
 | _,_,0,_=>.nil
 | _,_,_+1,.nil=>.nil
 | _,_,n+1,.cons r t=>.cons r (Vals.take n t)
theorem Vals.drop:∀ {xs:List V}{us:List Value} (n:Nat),Vals xs us→Vals (xs.drop n) (us.drop n)
 | _,_,0,r=>r
 | _,_,_+1,.nil=>.nil
 | _,_,n+1,.cons _ t=>Vals.drop n t
theorem Vals.none_of:∀ {xs:List V}{us:List Value}{i:Nat},Vals xs us→xs[i]? = none→us[i]? = none:=fun {xs us i} r e=>by
 have h1:=r.length
 have h2:xs.length≤i:=List.getElem?_eq_none_iff.mp e
 exact List.getElem?_eq_none_iff.mpr (by omega)
def qF:Option V→Option Value→Prop
 | some v,some u=>RelV v u
 | none,none=>True
 | _,_=>False
def KV {κ:Type}:List (κ × V)→List (κ × Value)→Prop:=Paired fun (p:κ × V) (q:κ × Value)=>p.1=q.1∧RelV p.2 q.2
def kV:Key→V
 | .inl i=>.int i
 | .inr x=>.str x
inductive HO where
 | lst (xs:List V)
 | tup (xs:List V)
 | dK (kvs:List (Key × V)) | dT (kvs:List (List Key × V))
 | set (S:Int→Bool) (n:Nat)
 | ins (C dx:Addr) (fs:List (Str × V))
 | own (x:Addr)
 | xd (fs:List (Str × V))
 | met (f x:Addr)
 | rng (lo hi:Int)
 | jG (o:Obj) (u:HO)
 | tbl (ps:Array Value)
 | ext (φ:Heap→Prop)
abbrev Hp:=Addr→Option HO
def upd (H:Hp) (a:Addr) (o:HO):Hp:=fun b=>if b=a then some o else H b
theorem zB {H:Hp}{a:Addr}{o:HO}:upd H a o a=some o:=by unfold upd;rw [if_pos rfl]
theorem zL {H:Hp}{a b:Addr}{o:HO} (h:b≠a):upd H a o b=H b:=by unfold upd;rw [if_neg h]
theorem yA {H:Hp}{a:Addr}{o u:HO}:upd (upd H a o) a u=upd H a u:=by
 funext b;unfold upd;split <;> rfl
theorem za {H:Hp}{a b:Addr}{o u:HO} (h:H a=some o) (h':H b=some u) (d:o≠u):a≠b:=by
 intro e;subst e;rw [h] at h';exact d (Option.some.inj h')
theorem zI {H:Hp}{a b:Addr}{o:HO} (h:H a=some o) (h':H b=none):a≠b:=by
 intro e;subst e;rw [h] at h';cases h'
section
variable (P:Program) (w:World)
def bw (H:Hp) (h:Heap) (a:Addr):HO→Prop
 | .lst xs=>xs.length≤sizeLine∧∃ (its:List Value) (n:Nat),Vals xs its∧h.get? a=some { cls:=.type "list",data:=.seq its.toArray n }
 | .tup xs=>xs.length≤sizeLine∧∃ its:List Value,Vals xs its∧IsTup h a its.toArray
 | .dK kvs=>kvs.length≤sizeLine∧(a == sysModules)=false∧∃ vs,KV kvs vs∧h.DictOf (aX P w) a vs
 | .dT kvs=>kvs.length≤sizeLine∧(a == sysModules)=false∧∃ xs:List (List Key × Addr × Value),
     Paired (fun (p:List Key × V) (q:List Key × Addr × Value)=>p.1=q.1∧H q.2.1=some (.tup (p.1.map kV))∧RelV p.2 q.2.2) kvs xs ∧
     ∃ o es ep,h.get? a=some o∧o.ExactDict∧o.data=.dict es ep∧es.toList=xs.map (entryOfKey (tupleKind (aX P w)))∧(xs.map (·.1)).Nodup
 | .set S n=>h.SetOf (intKind P w) a S n
 | .ins C dx fs=>H dx=some (.own a)∧fs.length≤1000∧dx≠a∧h.get? a=some (PySem.W.instObj C dx) ∧
     ∃ mA,h.Ns1 dx mA∧(∀ f,qF (fs.lookup f) (mA f))∧PySem.Within mA (fs.map (·.1))
 | .own _=>∃ o,h.get? a=some o
 | .xd fs=>∃ mA,h.Ns1 a mA∧∀ f,qF (fs.lookup f) (mA f)
 | .rng lo hi=>∃ t u v,h.get? a=some { cls:=.type "range",data:=.fields #[.int lo t,.int hi u,.int 1 v] }
 | .jG o u=>h.get? a=some o∧bw H h a u
 | .tbl ps=>h.get? a=some { cls:=.none,data:=.fields ps }
 | .met f x=>h.get? a=some (PySem.W.methodObj (.ref f) (.ref x))
 | .ext φ=>φ h∧(∃ o,h.get? a=some o)∧∀ h1 h2:Heap,φ h1→(∀ o,h1.get? a=some o→h2.get? a=some o)→φ h2
def uh (H:Hp) (h:Heap):Prop:=∀ a o,H a=some o→bw P w H h a o
end
section
variable {P:Program}{w:World}{H H':Hp}{h h':Heap}{a:Addr}{o:HO}
theorem bw.lt (x:bw P w H h a o):a<h.objs.size:=by
 cases o with
 | lst xs=>obtain⟨_,_,_,_,e⟩:=x;exact Heap.lt_size e
 | tup xs=>obtain⟨_,_,_,p⟩:=x;exact p.lt
 | dK kvs=>obtain⟨_,_,_,_,o,_,_,e,_⟩:=x;exact Heap.lt_size e
 | dT kvs=>obtain⟨_,_,_,_,o,_,_,e,_⟩:=x;exact Heap.lt_size e
 | set S n=>obtain⟨o,_,_,_,e,_⟩:=x;exact Heap.lt_size e
 | ins C dx fs=>obtain⟨_,_,_,e,_⟩:=x;exact Heap.lt_size e
 | own y=>obtain⟨_,e⟩:=x;exact Heap.lt_size e
 | xd fs=>obtain⟨_,⟨_,_,_,e,_⟩,_⟩:=x;exact Heap.lt_size e
 | rng lo hi=>obtain⟨_,_,_,e⟩:=x;exact Heap.lt_size e
 | jG ob u=>obtain⟨e,_⟩:=x;exact Heap.lt_size e
 | tbl ps=>exact Heap.lt_size (show h.get? a=some _ from x)
 | met f y=>exact Heap.lt_size (show h.get? a=some _ from x)
 | ext φ=>obtain⟨_,⟨_,e⟩,_⟩:=x;exact Heap.lt_size e
theorem Paired.ad1 {α β:Type}{F G:α→β→Prop}:∀ {l₁:List α}{l₂:List β},Paired F l₁ l₂→(∀ a b,F a b→G a b)→Paired G l₁ l₂
 | _,_,.nil,_=>.nil
 | _,_,.cons r t,f=>.cons (f _ _ r) (Paired.ad1 t f)
theorem bw.stay (x:bw P w H h a o) (k:∀ b u,(b=a∨H b=some (.own a))→h.get? b=some u→h'.get? b=some u)
   (ho:∀ b,H b=some (.own a)→H' b=some (.own a)) (ht:∀ b xs,H b=some (.tup xs)→H' b=some (.tup xs)):bw P w H' h' a o:=by
 induction o with
 | lst xs=>obtain⟨z,its,n,r,e⟩:=x;exact⟨z,its,n,r,k _ _ (.inl rfl) e⟩
 | tup xs=>obtain⟨z,its,r,ob,e,c⟩:=x;exact⟨z,its,r,ob,k _ _ (.inl rfl) e,c⟩
 | dK kvs=>obtain⟨z,y,vs,r,ob,es,ep,e,c⟩:=x;exact⟨z,y,vs,r,ob,es,ep,k _ _ (.inl rfl) e,c⟩
 | dT kvs =>
   obtain⟨z,y,xs,r,ob,es,ep,e,c⟩:=x
   exact⟨z,y,xs,Paired.ad1 r fun p q z=>⟨z.1,ht _ _ z.2.1,z.2.2⟩,ob,es,ep,k _ _ (.inl rfl) e,c⟩
 | set S n=>obtain⟨ob,es,ep,t,e,c⟩:=x;exact⟨ob,es,ep,t,k _ _ (.inl rfl) e,c⟩
 | ins C dx fs =>
   obtain⟨d,z,ne,e,mA,⟨od,es,ep,e2,c⟩,r⟩:=x
   exact⟨ho _ d,z,ne,k _ _ (.inl rfl) e,mA,⟨od,es,ep,k _ _ (.inr d) e2,c⟩,r⟩
 | own y=>obtain⟨ob,e⟩:=x;exact⟨ob,k _ _ (.inl rfl) e⟩
 | xd fs=>obtain⟨mA,⟨od,es,ep,e,c⟩,r⟩:=x;exact⟨mA,⟨od,es,ep,k _ _ (.inl rfl) e,c⟩,r⟩
 | rng lo hi=>obtain⟨t,u,v,e⟩:=x;exact⟨t,u,v,k _ _ (.inl rfl) e⟩
 | jG ob u ih=>obtain⟨e,q⟩:=x;exact⟨k _ _ (.inl rfl) e,ih q⟩
 | tbl ps =>
   have e:h.get? a=some { cls:=.none,data:=.fields ps }:=x
   show h'.get? a=some { cls:=.none,data:=.fields ps }
   exact k a _ (.inl rfl) e
 | met f y =>
   have e:h.get? a=some (PySem.W.methodObj (.ref f) (.ref y)):=x
   show h'.get? a=some (PySem.W.methodObj (.ref f) (.ref y))
   exact k a _ (.inl rfl) e
 | ext φ=>obtain⟨p,⟨o,e⟩,st⟩:=x;exact⟨st _ _ p fun o q=>k _ _ (.inl rfl) q,⟨o,k _ _ (.inl rfl) e⟩,st⟩
theorem uh.lt (x:uh P w H h) (e:H a=some o):a<h.objs.size:=(x a o e).lt
theorem uh.fresh (x:uh P w H h) (e:h.objs.size≤a):H a=none:=by
 cases q:H a with
 | none=>rfl
 | some u=>exact absurd (Nat.lt_of_lt_of_le (x.lt q) e) (Nat.lt_irrefl _)
theorem uh.kept (x:uh P w H h) (k:∀ b u,h.get? b=some u→h'.get? b=some u):uh P w H h':=fun a o e =>
 (x a o e).stay (fun b u _ q=>k b u q) (fun _ q=>q) fun _ _ q=>q
theorem uh.laid (x:uh P w H h) (k:∀ b u,h.get? b=some u→h'.get? b=some u) (hp:h.objs.size≤a) (new:bw P w (upd H a o) h' a o):uh P w (upd H a o) h':=fun b u e=>by
 have hn:=x.fresh hp
 by_cases hb:b=a
 · subst hb;rw [zB] at e;cases e;exact new
 · rw [zL hb] at e
   exact (x b u e).stay (fun c v _ q=>k c v q) (fun c q=>by rw [zL (zI q hn)];exact q) fun c xs q=>by rw [zL (zI q hn)];exact q
end
def Rd (H:Hp) (a:Addr) (u:HO):Prop:=H a=some u∨∃ o,H a=some (.jG o u)
theorem Rd.of {H:Hp}{a:Addr}{u:HO} (h:H a=some u):Rd H a u:=.inl h
theorem Rd.ok {P:Program}{w:World}{H:Hp}{h:Heap}{a:Addr}{u:HO} (r:Rd H a u) (x:uh P w H h):bw P w H h a u:=by
 rcases r with r | ⟨o,r⟩
 · exact x a u r
 · obtain⟨_,q⟩:=x a _ r
   exact q
def Mut:Option HO→Prop
 | some (.lst _)=>True
 | some (.dK _)=>True
 | some (.dT _)=>True
 | some (.set _ _)=>True
 | some (.ins _ _ _)=>True
 | some (.ext _)=>True
 | _=>False
section
variable {P:Program}{w:World}{H:Hp}{h h':Heap}{x e:Addr}{o':HO}
theorem uh.write (ok:uh P w H h) (mu:Mut (H x)) (he:e=x∨H e=some (.own x)) (k:∀ b u,b≠e→h.get? b=some u→h'.get? b=some u) (heo:∃ u,h'.get? e=some u)
   (new:bw P w (upd H x o') h' x o'):uh P w (upd H x o') h':=fun b u q=>by
 have ahY:∀ c y,H c=some (.own y)→c≠x:=fun c y r z=>by subst z;rw [r] at mu;exact mu
 have auY:∀ c xs,H c=some (.tup xs)→c≠x:=fun c xs r z=>by subst z;rw [r] at mu;exact mu
 by_cases hb:b=x
 · subst hb;rw [zB] at q;cases q;exact new
 · rw [zL hb] at q
   by_cases hbe:b=e
   · have q':H b=some (.own x):=by
       rcases he with z | z
       · exact absurd (hbe.trans z) hb
       · rw [hbe];exact z
     rw [q] at q';cases q'
     obtain⟨v,hv⟩:=heo
     exact⟨v,by rw [hbe];exact hv⟩
   · refine (ok b u q).stay (fun c v hc r=>k c v ?_ r) (fun c r=>by rw [zL (ahY c b r)];exact r) fun c xs r=>by rw [zL (auY c xs r)];exact r
     rcases hc with rfl | hc
     · exact hbe
     · rintro rfl
       rcases he with z | z
       · exact ahY c b hc z
       · rw [hc] at z;cases z;exact hb rfl
end
structure Un (fs ex:List Addr) (H H':Hp) (h h':Heap):Prop where
 keep:∀ b o,h.get? b=some o→H b=none→b∉fs→b∉ex→h'.get? b=some o
 slot:∀ b o,h.get? b=some o→H b=none→b∈fs→b∉ex→∃ sl,h'.get? b=some { o with slots:=sl }
 free:∀ b o,h.get? b=some o→H b=none→b∉ex→H' b=none
 there:∀ b o,h.get? b=some o→b∉ex→∃ o',h'.get? b=some o'
 tups:∀ b xs,H b=some (.tup xs)→H' b=some (.tup xs)
 j4:∀ b o u,H b=some (.jG o u)→H' b=some (.jG o u)
 mZ:∀ b ps,H b=some (.tbl ps)→∃ more,H' b=some (.tbl (ps++more))
section
variable {fs fs' ex ex':List Addr}{H H1 H2:Hp}{h h1 h2 h':Heap}{a x e:Addr}{o:HO}
theorem Un.any (u:Un fs ex H H1 h h1) {b:Addr}{ob:Obj} (q:h.get? b=some ob) (n:H b=none) (hx:b∉ex):∃ sl,h1.get? b=some { ob with slots:=sl }:=by
 by_cases hb:b∈fs
 · exact u.slot b ob q n hb hx
 · exact⟨ob.slots,u.keep b ob q n hb hx⟩
theorem Un.trans (a:Un fs ex H H1 h h1) (b:Un fs ex H1 H2 h1 h2):Un fs ex H H2 h h2 where
 keep:=fun c ob q n hc hx=>b.keep c ob (a.keep c ob q n hc hx) (a.free c ob q n hx) hc hx
 slot:=fun c ob q n hc hx=>by
   obtain⟨sl,e1⟩:=a.slot c ob q n hc hx
   obtain⟨sl',e2⟩:=b.slot c _ e1 (a.free c ob q n hx) hc hx
   exact⟨sl',e2⟩
 free:=fun c ob q n hx=>by
   obtain⟨o',e1⟩:=a.there c ob q hx
   exact b.free c o' e1 (a.free c ob q n hx) hx
 there:=fun c ob q hx=>by
   obtain⟨o',e1⟩:=a.there c ob q hx
   exact b.there c o' e1 hx
 tups:=fun c xs q=>b.tups c xs (a.tups c xs q)
 j4:=fun c ob xs q=>b.j4 c ob xs (a.j4 c ob xs q)
 mZ:=fun c ps q=>by
   obtain⟨m1,e1⟩:=a.mZ c ps q
   obtain⟨m2,e2⟩:=b.mZ c _ e1
   exact⟨m1++m2,by rw [e2,Array.append_assoc]⟩
theorem Un.kept (k:∀ b u,h.get? b=some u→h'.get? b=some u):Un fs ex H H h h' :=
 ⟨fun b ob q _ _ _=>k b ob q,fun b ob q _ _ _=>⟨ob.slots,k b ob q⟩,fun _ _ _ n _=>n,fun b ob q _=>⟨ob,k b ob q⟩,fun _ _ q=>q,fun _ _ _ q=>q,fun _ ps q=>⟨#[],by rw [q];simp⟩⟩
theorem Un.refl:Un fs ex H H h h:=Un.kept fun _ _ q=>q
theorem Un.laid (k:∀ b u,h.get? b=some u→h'.get? b=some u) (hp:h.objs.size≤a) (hn:H a=none):Un fs ex H (upd H a o) h h' where
 keep:=fun b u q _ _ _=>k b u q
 slot:=fun b u q _ _ _=>⟨u.slots,k b u q⟩
 free:=fun b u q n _=>by rw [zL (Nat.ne_of_lt (Nat.lt_of_lt_of_le (Heap.lt_size q) hp))];exact n
 there:=fun b u q _=>⟨u,k b u q⟩
 tups:=fun b xs q=>by rw [zL (zI q hn)];exact q
 j4:=fun b u xs q=>by rw [zL (zI q hn)];exact q
 mZ:=fun b ps q=>⟨#[],by rw [zL (zI q hn),q];simp⟩
theorem Un.write (mu:Mut (H x)) (he:e=x∨H e=some (.own x)) (k:∀ b u,b≠e→h.get? b=some u→h'.get? b=some u) (heo:∃ u,h'.get? e=some u):Un fs ex H (upd H x o) h h':=by
 have hx:∀ b,H b=none→b≠x:=fun b n z=>by subst z;rw [n] at mu;exact mu
 have hb:∀ b,H b=none→b≠e:=fun b n z=>by
   subst z
   rcases he with r | r
   · exact hx b n r
   · rw [n] at r;cases r
 have hm:∀ b u,H b=some u→¬ Mut (some u)→b≠x:=fun b u q nm z=>by subst z;rw [q] at mu;exact nm mu
 refine⟨fun b u q n _ _=>k b u (hb b n) q,fun b u q n _ _=>⟨u.slots,k b u (hb b n) q⟩,fun b u q n _=>by rw [zL (hx b n)];exact n,fun b u q _=>?_,
   fun b xs q=>by rw [zL (hm b _ q fun z=>z)];exact q,fun b u xs q=>by rw [zL (hm b _ q fun z=>z)];exact q,fun b ps q=>⟨#[],by rw [zL (hm b _ q fun z=>z),q];simp⟩⟩
 by_cases hbe:b=e
 · subst hbe;exact heo
 · exact⟨u,k b u hbe q⟩
theorem Un.mono (u:Un fs ex H H1 h h1) (hs:∀ b∈fs,b∈fs') (hx:∀ b∈ex,b∈ex'):Un fs' ex' H H1 h h1 :=
 ⟨fun b ob q n hb he=>u.keep b ob q n (fun z=>hb (hs b z)) fun z=>he (hx b z),fun _ _ q n _ he=>u.any q n fun z=>he (hx _ z),fun b ob q n he=>u.free b ob q n fun z=>he (hx b z),fun b ob q he=>u.there b ob q fun z=>he (hx b z),u.tups,u.j4,u.mZ⟩
end
def trk (h:Heap) (H:Hp):List Addr:=(List.range h.objs.size).filter fun a=>(H a).isSome
def Nq (h:Heap) (H:Hp):Heap:=PySem.W.hideAll h (trk h H)
theorem V0 (h:Heap) (H:Hp):(Nq h H).objs.size=h.objs.size:=PySem.W.hideAll_size _ _
theorem Xr {h:Heap}{H:Hp}{b:Addr}{o:Obj} (e:h.get? b=some o) (n:H b=none):(Nq h H).get? b=some o :=
 PySem.W.hideAll_get _ e fun hm=>by
   have q:(H b).isSome=true:=(List.mem_filter.mp hm).2
   rw [n] at q;simp at q
theorem abw {h:Heap}{H:Hp}{b:Addr}{o:Obj} (e:(Nq h H).get? b=some o):h.get? b=some o∧H b=none:=by
 have e':h.get? b=some o:=PySem.W.of_hideAll (trk h H) e
 refine⟨e',?_⟩
 cases q:H b with
 | none=>rfl
 | some x =>
   have hm:b∈trk h H:=List.mem_filter.mpr ⟨List.mem_range.mpr (Heap.lt_size e'),by simp [q]⟩
   have z:(Nq h H).get? b=none:=PySem.W.hideAll_none (trk h H) hm
   rw [z] at e;cases e
def abx (g h:Heap) (L:Addr):List (Addr × Obj):=(List.range h.objs.size).filterMap fun a=>if a=L∨(g.get? a).isSome=true then none else (h.get? a).map fun o=>(a,o)
def rest (g h:Heap) (L d:Addr):List (Addr × Obj):=(abx g h L).filter fun p=>decide (p.1≠d)
end L2
namespace L2
open PySem PySem.Spec PyProof.Rows
structure Mod (K:PySem.W.Frag) (mg:Str→Option Value) (base:Heap):Prop where
 kin:K.In base
 glob:base.Ns mainGlobals mg
 blt:∃ mb,base.Ns builtinsNs mb∧∀ x:Str,x≠"__name__"→mb x=bootBuiltins x
 nolimit:base.NoLimit
structure Cx where
 prog:Program
 w:World
 K:PySem.W.Frag
 mg:Str→Option Value
 base:Heap
 A:Around
 N:List Str
 s₀:Shared
 H₀:Hp
 env:Env
 outer:List Env
 stack:List Env
 ex:List Addr
 fn:Str→Bool
 calm:Bool
 pn:List (Addr × Obj)
 xe:Value→Shared→Prop
def frs (l:List Env):List Addr:=l.filterMap (·.frame)
abbrev Cx.fs (X:Cx):List Addr:=frs X.outer
def Vis (sc:Scope) (x:Str):Prop:=sc.names.lookup x=some .local∨sc.names.lookup x=some .cell∨sc.names.lookup x=some .free
def Loc (sc:Scope) (x:Str):Prop:=sc.names.lookup x=some .local∨sc.names.lookup x=some .cell
def Look (env:Env) (h:Heap) (m:Str→Option Value) (x:Str) (u:Value):Prop :=
 (env.kindOf x=some .local∧m x=some u)∨((env.kindOf x=some .cell∨env.kindOf x=some .free)∧∃ c,env.cells.lookup x=some c∧h.IsCell c (some u))
structure Cx.Ok (X:Cx):Prop where
 mod:Mod X.K X.mg X.base
 kind:X.env.scope.kind=.function
 glob:X.env.globals=mainGlobals
 blt:X.env.builtins=builtinsNs
 above:X.s₀.heap.objs.size≤X.env.locals
 inj:∀ x y c,X.env.cells.lookup x=some c→X.env.cells.lookup y=some c→x=y
 has:∀ x,(X.env.kindOf x=some .cell∨X.env.kindOf x=some .free)→∃ c,X.env.cells.lookup x=some c
 cab:∀ x c,X.fn x=true→X.env.cells.lookup x=some c→X.s₀.heap.objs.size≤c
 hd:X.calm=true→X.A.handled=none
 frames:X.A.frames=some X.stack
 stk:X.stack=X.outer∨(X.stack=X.env::X.outer∧X.env.frame=some X.env.locals)
 exf:∀ b∈X.ex,b≠X.env.locals∧∀ x c,X.env.cells.lookup x=some c→c≠b
 bs:∀ b o,X.base.get? b=some o→X.s₀.heap.get? b=some o∧X.H₀ b=none
 Xu:X.base.objs.size≤X.s₀.heap.objs.size
 V1:∀ b o,X.base.get? b=some o→b∉X.ex
 Xv:∀ b∈X.ex,b∉X.fs
 wK:X.s₀.heap.FunFrames X.base X.outer
 frf:∀ b∈X.fs,X.H₀ b=none
structure Inv (X:Cx) (pins:List (Addr × Obj)) (σ:List (Option V)) (H:Hp) (s:Shared):Prop where
 ok:X.Ok
 os:s.os=X.s₀.os
 bare:AllBare s.gens
 base:Un X.fs X.ex X.H₀ H X.s₀.heap s.heap
 loc:∃ m,s.heap.Ns X.env.locals m∧∀ (i:Nat) (x:Str) (v:V),X.N[i]? = some x→σ[i]? = some (some v)→Vis X.env.scope x→∃ u,RelV v u∧Look X.env s.heap m x u
 cell:∀ x c,X.env.cells.lookup x=some c→∃ v,s.heap.IsCell c v
 free:H X.env.locals=none
 jH:∀ x c,X.env.cells.lookup x=some c→H c=none
 pin:∀ p∈X.pn++pins,s.heap.get? p.1=some p.2∧H p.1=none∧p.1≠X.env.locals∧p.1∉X.fs∧∀ v,p.2.data≠.cell v
 hok:uh X.prog X.w H s.heap
 len:σ.length=X.N.length
section
variable {X:Cx}{pins:List (Addr × Obj)}{σ:List (Option V)}{H H':Hp}{s:Shared}{h':Heap}
theorem Cx.Ok.au0 (ok:X.Ok) {b:Addr}{o:Obj} (e:X.base.get? b=some o):b∉X.fs:=fun hb=>by
 have:=(ok.wK.mem hb).1
 rw [e] at this;cases this
theorem Inv.bs (I:Inv X pins σ H s):∀ b o,X.base.get? b=some o→s.heap.get? b=some o∧H b=none:=fun b o e =>
 ⟨I.base.keep b o (I.ok.bs b o e).1 (I.ok.bs b o e).2 (I.ok.au0 e) (I.ok.V1 b o e),I.base.free b o (I.ok.bs b o e).1 (I.ok.bs b o e).2 (I.ok.V1 b o e)⟩
theorem Inv.bk (I:Inv X pins σ H s):∀ b o,X.base.get? b=some o→s.heap.get? b=some o:=fun b o e=>(I.bs b o e).1
theorem Inv.mod (I:Inv X pins σ H s):Mod X.K X.mg X.base:=I.ok.mod
theorem Inv.ug (I:Inv X pins σ H s):X.K.In s.heap:=I.ok.mod.kin.keeps I.bk
theorem Inv.nolimit (I:Inv X pins σ H s):s.heap.NoLimit:=I.ok.mod.nolimit.keeps I.bk
theorem Inv.fr (I:Inv X pins σ H s):∃ m,Fr X.base X.env.locals s.heap m :=
 let ⟨m,hn,_⟩:=I.loc
 ⟨m,hn,I.bk,Nat.le_trans I.ok.Xu I.ok.above⟩
theorem Inv.lt (I:Inv X pins σ H s):X.env.locals<s.heap.objs.size:=let ⟨_,hn,_⟩:=I.loc;hn.lt
theorem Inv.sz (I:Inv X pins σ H s):X.s₀.heap.objs.size≤s.heap.objs.size:=Nat.le_trans I.ok.above (Nat.le_of_lt I.lt)
theorem Inv.ad2 (I:Inv X pins σ H s) {a:Addr} (h:s.heap.objs.size≤a):a∉X.fs:=fun hb=>by
 obtain⟨_,o,ho,_⟩:=I.ok.wK.mem hb
 exact absurd (Nat.lt_of_lt_of_le (Heap.lt_size ho) (Nat.le_trans I.sz h)) (Nat.lt_irrefl _)
theorem Inv.Xw (I:Inv X pins σ H s):∀ x c,X.env.cells.lookup x=some c→c≠X.env.locals:=fun x c e z=>by
 obtain⟨v,o,ho,hd⟩:=I.cell x c e
 obtain⟨m,⟨o',es,ep,ho',hd',_⟩,_⟩:=I.loc
 rw [z,ho'] at ho;cases ho;rw [hd'] at hd;cases hd
theorem Inv.wK (I:Inv X pins σ H s):s.heap.FunFrames X.base X.outer:=by
 have all:∀ (l:List Env),(∀ b∈frs l,b∈X.fs)→X.s₀.heap.FunFrames X.base l→s.heap.FunFrames X.base l:=by
   intro l
   induction l with
   | nil=>intro _ _;trivial
   | cons env r ih =>
     intro hs hl
     obtain⟨hk,⟨L,o,hf,hn,ho,hd⟩,hr⟩:=hl
     have hL:L∈X.fs:=hs L (by unfold frs;rw [List.filterMap_cons,hf];exact List.mem_cons_self)
     obtain⟨sl,e⟩:=I.base.slot L o ho (I.ok.frf L hL) hL fun z=>I.ok.Xv L z hL
     exact⟨hk,⟨L,_,hf,hn,e,hd⟩,ih (fun b hb=>hs b (by unfold frs;rw [List.filterMap_cons,hf];exact List.mem_cons_of_mem _ hb)) hr⟩
 exact all X.outer (fun _ hb=>hb) I.ok.wK
theorem Inv.stack (I:Inv X pins σ H s):s.heap.FunFrames X.base X.stack:=by
 rcases I.ok.stk with e | ⟨e,hf⟩
 · rw [e];exact I.wK
 · rw [e]
   obtain⟨m,hn,_⟩:=I.loc
   refine .cons (by rw [I.ok.kind];decide) hf hn ?_ I.wK
   exact Heap.get?_none_of_le (Nat.le_trans I.ok.Xu I.ok.above)
theorem Inv.rE (I:Inv X pins σ H s):∀ b∈frs X.stack,b∈X.env.locals::X.fs:=fun b hb=>by
 rcases I.ok.stk with e | ⟨e,hf⟩
 · rw [e] at hb;exact List.mem_cons_of_mem _ hb
 · rw [e] at hb
   unfold frs at hb
   rw [List.filterMap_cons,hf] at hb
   exact hb
theorem Inv.vB (I:Inv X pins σ H s):∀ b∈frs X.stack,H b=none:=fun b hb=>by
 rcases List.mem_cons.mp (I.rE b hb) with e | hb
 · rw [e];exact I.free
 · obtain⟨_,o,ho,_⟩:=I.ok.wK.mem hb
   exact I.base.free b o ho (I.ok.frf b hb) fun z=>I.ok.Xv b z hb
theorem Inv.step {g':Array GenState}{t':Nat}{d':Drawn}{ch:List Addr} (I:Inv X pins σ H s)
   (hch:∀ b∈ch,(b∈X.ex∨X.s₀.heap.objs.size≤b)∧b≠X.env.locals∧(∀ x c,X.env.cells.lookup x=some c→c≠b)∧∀ p∈X.pn++pins,p.1≠b)
   (keep:∀ b o,b≠X.env.locals→b∉X.fs→b∉ch→s.heap.get? b=some o→H b=none→h'.get? b=some o)
   (slot:∀ b o,b≠X.env.locals→b∈X.fs→b∉ch→s.heap.get? b=some o→H b=none→∃ sl,h'.get? b=some { o with slots:=sl }) (free:∀ b o,b∉ch→s.heap.get? b=some o→H b=none→H' b=none)
   (there:∀ b o,b∉ch→s.heap.get? b=some o→∃ o',h'.get? b=some o')
   (tups:∀ b xs,H b=some (.tup xs)→H' b=some (.tup xs)) (j4:∀ b o u,H b=some (.jG o u)→H' b=some (.jG o u)) (mZ:∀ b ps,H b=some (.tbl ps)→∃ more,H' b=some (.tbl (ps++more)))
   (ns:∀ m,s.heap.Ns X.env.locals m→h'.Ns X.env.locals m) (hok:uh X.prog X.w H' h') (hg:AllBare g') :
   Inv X pins σ H' { s with heap:=h',gens:=g',drawn:=d',toks:=t' }:=by
 have neL:∀ b o,X.s₀.heap.get? b=some o→b≠X.env.locals:=fun b o e=>Nat.ne_of_lt (Nat.lt_of_lt_of_le (Heap.lt_size e) I.ok.above)
 have neC:∀ b o,X.s₀.heap.get? b=some o→b∉X.ex→b∉ch:=fun b o e hx hb=>by
   rcases (hch b hb).1 with z | z
   · exact hx z
   · exact absurd (Nat.lt_of_lt_of_le (Heap.lt_size e) z) (Nat.lt_irrefl _)
 have cellK:∀ x c,X.env.cells.lookup x=some c→∀ v,s.heap.IsCell c v→h'.IsCell c v:=fun x c e v ⟨o,ho,hd⟩=>by
   have nch:c∉ch:=fun z=>(hch c z).2.2.1 x c e rfl
   by_cases hc:c∈X.fs
   · obtain⟨sl,q⟩:=slot c o (I.Xw x c e) hc nch ho (I.jH x c e)
     exact⟨_,q,hd⟩
   · exact⟨o,keep c o (I.Xw x c e) hc nch ho (I.jH x c e),hd⟩
 refine⟨I.ok,I.os,hg,⟨fun b o e n hb hx=>?_,fun b o e n hb hx=>?_,fun b o e n hx=>?_,fun b o e hx=>?_,fun b xs e=>tups b xs (I.base.tups b xs e),fun b o xs e=>j4 b o xs (I.base.j4 b o xs e),fun b ps e=>?_⟩,?_,fun x c e=>?_,?_,fun x c e=>?_,fun p hp=>?_,hok,I.len⟩
 · exact keep b o (neL b o e) hb (neC b o e hx) (I.base.keep b o e n hb hx) (I.base.free b o e n hx)
 · obtain⟨sl,e1⟩:=I.base.slot b o e n hb hx
   obtain⟨sl',e2⟩:=slot b _ (neL b o e) hb (neC b o e hx) e1 (I.base.free b o e n hx)
   exact⟨sl',e2⟩
 · obtain⟨o',e1⟩:=I.base.there b o e hx
   exact free b o' (neC b o e hx) e1 (I.base.free b o e n hx)
 · obtain⟨o',e1⟩:=I.base.there b o e hx
   exact there b o' (neC b o e hx) e1
 · obtain⟨m1,e1⟩:=I.base.mZ b ps e
   obtain⟨m2,e2⟩:=mZ b _ e1
   exact⟨m1++m2,by rw [e2,Array.append_assoc]⟩
 · obtain⟨m,hn,hl⟩:=I.loc
   refine⟨m,ns m hn,fun i x v e1 e2 e3=>?_⟩
   obtain⟨u,r,l⟩:=hl i x v e1 e2 e3
   refine⟨u,r,?_⟩
   rcases l with l | ⟨k,c,e,z⟩
   · exact .inl l
   · exact .inr ⟨k,c,e,cellK x c e _ z⟩
 · obtain⟨v,z⟩:=I.cell x c e
   exact⟨v,cellK x c e v z⟩
 · obtain⟨m,⟨o,_,_,ho,_⟩,_⟩:=I.loc
   exact free _ o (fun z=>(hch _ z).2.1 rfl) ho I.free
 · obtain⟨v,o,ho,hd⟩:=I.cell x c e
   exact free c o (fun z=>(hch c z).2.2.1 x c e rfl) ho (I.jH x c e)
 · obtain⟨e,n,ne,nf,d⟩:=I.pin p hp
   have nch:p.1∉ch:=fun z=>(hch p.1 z).2.2.2 p hp rfl
   exact⟨keep p.1 p.2 ne nf nch e n,free p.1 p.2 nch e n,ne,nf,d⟩
theorem Inv.un {t':Nat} (I:Inv X pins σ H s) (u:Un X.fs [] H H' s.heap h') (hok:uh X.prog X.w H' h'):Inv X pins σ H' { s with heap:=h',toks:=t' }:=by
 obtain⟨m,⟨o,es,ep,ho,r⟩,_⟩:=id I.loc
 obtain⟨sl,hL⟩:=u.any ho I.free (by simp)
 exact I.step (g':=s.gens) (d':=s.drawn) (ch:=[]) (fun _ z=>nomatch z) (fun b o _ hb _ e n=>u.keep b o e n hb (by simp)) (fun b o _ hb _ e n=>u.slot b o e n hb (by simp)) (fun b o _ e n=>u.free b o e n (by simp)) (fun b o _ e=>u.there b o e (by simp)) u.tups u.j4 u.mZ (fun m' hm=>by
   obtain⟨o',es',ep',ho',r'⟩:=hm
   rw [ho] at ho';cases ho'
   exact⟨_,es',ep',hL,r'⟩) hok I.bare
theorem Inv.call {g':Array GenState}{t':Nat}{d':Drawn}{ch:List Addr} (I:Inv X pins σ H s) (u:Un (frs X.stack) ch H H' s.heap h') (hok:uh X.prog X.w H' h') (hg:AllBare g')
   (hch:∀ b∈ch,(b∈X.ex∨X.s₀.heap.objs.size≤b)∧b≠X.env.locals∧(∀ x c,X.env.cells.lookup x=some c→c≠b)∧∀ p∈X.pn++pins,p.1≠b) :
   Inv X pins σ H' { s with heap:=h',gens:=g',drawn:=d',toks:=t' }:=by
 obtain⟨m,⟨o,es,ep,ho,r⟩,_⟩:=id I.loc
 obtain⟨sl,hL⟩:=u.any ho I.free fun z=>(hch _ z).2.1 rfl
 exact I.step (ch:=ch) hch (fun b o hL hb hc e n=>u.keep b o e n (fun z=>(List.mem_cons.mp (I.rE b z)).elim hL hb) hc) (fun b o _ _ hc e n=>u.any e n hc) (fun b o hc e n=>u.free b o e n hc) (fun b o hc e=>u.there b o e hc) u.tups u.j4 u.mZ (fun m' hm=>by
   obtain⟨o',es',ep',ho',r'⟩:=hm
   rw [ho] at ho';cases ho'
   exact⟨_,es',ep',hL,r'⟩) hok hg
theorem Inv.turned {t':Nat}{it:Addr} (I:Inv X pins σ H s) (k:∀ b o,b≠it→s.heap.get? b=some o→h'.get? b=some o) (hn:H it=none) (hL:it≠X.env.locals)
   (h1:it∈X.ex∨X.s₀.heap.objs.size≤it) (h2:∀ x c,X.env.cells.lookup x=some c→c≠it) (h3:∀ p∈X.pn++pins,p.1≠it):Inv X pins σ H { s with heap:=h',toks:=t' }:=by
 have nit:∀ b u,H b=some u→b≠it:=fun b u e z=>by rw [z,hn] at e;cases e
 refine I.step (g':=s.gens) (d':=s.drawn) (ch:=[it]) (fun b hb=>?_) (fun b o _ _ hc e _=>k b o (fun z=>hc (by simp [z])) e) (fun b o _ _ hc e _=>⟨o.slots,k b o (fun z=>hc (by simp [z])) e⟩) (fun _ _ _ _ n=>n)
   (fun b o hc e=>⟨o,k b o (fun z=>hc (by simp [z])) e⟩) (fun _ _ e=>e) (fun _ _ _ e=>e) (fun b ps e=>⟨#[],by rw [e];simp⟩) (fun m hm=>?_) (fun b u e=>?_) I.bare
 · have e:b=it:=by simpa using hb
   subst e
   exact⟨h1,hL,h2,h3⟩
 · obtain⟨o,es,ep,ho,r⟩:=hm
   exact⟨o,es,ep,k _ o (Ne.symm hL) ho,r⟩
 · refine (I.hok b u e).stay (fun c v hc q=>k c v ?_ q) (fun _ q=>q) fun _ _ q=>q
   rcases hc with z | z
   · rw [z];exact nit b u e
   · exact nit c _ z
theorem Inv.tok (I:Inv X pins σ H s) (t:Nat):Inv X pins σ H { s with toks:=t }:=I.un (h':=s.heap) (t':=t) Un.refl I.hok
theorem Inv.kept {t':Nat} (I:Inv X pins σ H s) (k:∀ b u,s.heap.get? b=some u→h'.get? b=some u):Inv X pins σ H { s with heap:=h',toks:=t' }:=I.un (Un.kept k) (I.hok.kept k)
theorem Inv.laid {a:Addr}{o:HO}{t':Nat} (I:Inv X pins σ H s) (k:∀ b u,s.heap.get? b=some u→h'.get? b=some u) (hp:s.heap.objs.size≤a) (new:bw X.prog X.w (upd H a o) h' a o) :
   Inv X pins σ (upd H a o) { s with heap:=h',toks:=t' }:=I.un (Un.laid k hp (I.hok.fresh hp)) (I.hok.laid k hp new)
theorem Inv.write {x e:Addr}{o:HO}{t':Nat} (I:Inv X pins σ H s) (mu:Mut (H x)) (he:e=x∨H e=some (.own x)) (k:∀ b u,b≠e→s.heap.get? b=some u→h'.get? b=some u) (heo:∃ u,h'.get? e=some u)
   (new:bw X.prog X.w (upd H x o) h' x o):Inv X pins σ (upd H x o) { s with heap:=h',toks:=t' }:=I.un (Un.write mu he k heo) (I.hok.write mu he k heo new)
theorem Inv.weak {σ':List (Option V)} (I:Inv X pins σ H s) (hl:σ'.length=σ.length) (w:∀ (i:Nat) v,σ'[i]? = some (some v)→σ[i]? = some (some v)):Inv X pins σ' H s :=
 ⟨I.ok,I.os,I.bare,I.base,let ⟨m,hn,hl'⟩:=I.loc; ⟨m,hn,fun i x v e1 e2 e3=>hl' i x v e1 (w i v e2) e3⟩,I.cell,I.free,I.jH,I.pin,I.hok,hl.trans I.len⟩
theorem Inv.lE {Ma:List (Addr × Obj)} (I:Inv X pins σ H s) (h:∀ p∈Ma,s.heap.get? p.1=some p.2∧H p.1=none∧p.1≠X.env.locals∧p.1∉X.fs∧∀ v,p.2.data≠.cell v):Inv X Ma σ H s :=
 ⟨I.ok,I.os,I.bare,I.base,I.loc,I.cell,I.free,I.jH,fun p hp=>(List.mem_append.mp hp).elim (fun z=>I.pin p (List.mem_append_left _ z)) (h p),I.hok,I.len⟩
theorem Hb {N:List Str} (hN:N.Nodup) {i j:Nat}{x:Str} (a:N[i]? = some x) (b:N[j]? = some x):i=j:=by
 obtain⟨h1,e1⟩:=List.getElem?_eq_some_iff.mp a
 obtain⟨h2,e2⟩:=List.getElem?_eq_some_iff.mp b
 exact (List.getElem_inj hN).mp (e1.trans e2.symm)
theorem Mf {M:Model}{A:Around}{E:Value→Shared→Prop}{i:Nat}{x:Str}{v:V}{u:Value}{Q:Unit→Shared→Prop} (I:Inv X pins σ H s) (hN:X.N.Nodup) (hi:X.N[i]? = some x) (hx:Loc X.env.scope x) (r:RelV v u)
   (h:∀ s',Inv X pins (σ.set i (some v)) H s'→(∃ a,Heap.SameBut a s.heap s'.heap∧(a=X.env.locals∨X.env.cells.lookup x=some a))→Q () s') (hf:X.fn x=true∨X.env.scope.names.lookup x=some .local:=by first | exact .inl rfl | exact .inr rfl | assumption):wpAny M A (storeName X.env x u) Q E s:=by
 obtain⟨m,hn,hl⟩:=id I.loc
 have hcls:(X.env.scope.kind == .class || (X.env.scope.kind == .module && X.env.locals != X.env.globals))=false:=by rw [I.ok.kind];rfl
 have ah2:i<σ.length:=by rw [I.len];exact (List.getElem?_eq_some_iff.mp hi).1
 have Xw:=I.Xw
 have tracked:∀ {a:Addr}{h':Heap},(∃ o,s.heap.get? a=some o∧H a=none)→Heap.SameBut a s.heap h'→uh X.prog X.w H h':=fun {a h'} ha hs b ob e=>by
   obtain⟨_,_,hfree⟩:=ha
   refine (I.hok b ob e).stay (fun c w' hc q=>(hs.2 c ?_).trans q) (fun _ q=>q) fun _ _ q=>q
   rintro rfl
   rcases hc with rfl | hc
   · rw [hfree] at e;cases e
   · rw [hfree] at hc;cases hc
 rcases hx with hk | hk
 · refine wpAny_storeName_local hk hn (fun h' hn' hs=>?_) hcls
   obtain⟨oL,_,_,hoL,_⟩:=id hn
   refine h _ ⟨I.ok,I.os,I.bare,⟨fun b o e n hb hx=>?_,fun b o e n hb hx=>?_,I.base.free,fun b o e hx=>?_,I.base.tups,I.base.j4,I.base.mZ⟩,⟨_,hn',fun j y v' e1 e2 e3=>?_⟩,fun y c e=>?_,I.free,I.jH,fun p hp=>?_,tracked ⟨oL,hoL,I.free⟩ hs,by simpa using I.len⟩ ⟨_,hs,.inl rfl⟩
   · exact (hs.2 b (Nat.ne_of_lt (Nat.lt_of_lt_of_le (Heap.lt_size e) I.ok.above))).trans (I.base.keep b o e n hb hx)
   · obtain⟨sl,e1⟩:=I.base.slot b o e n hb hx
     exact⟨sl,(hs.2 b (Nat.ne_of_lt (Nat.lt_of_lt_of_le (Heap.lt_size e) I.ok.above))).trans e1⟩
   · obtain⟨o',e1⟩:=I.base.there b o e hx
     exact⟨o',(hs.2 b (Nat.ne_of_lt (Nat.lt_of_lt_of_le (Heap.lt_size e) I.ok.above))).trans e1⟩
   · by_cases hj:j=i
     · subst hj
       rw [hi] at e1;cases e1
       rw [List.getElem?_set_self ah2] at e2
       cases e2
       exact⟨u,r,.inl ⟨hk,by simp⟩⟩
     · rw [List.getElem?_set_ne (Ne.symm hj)] at e2
       obtain⟨u',r',q⟩:=hl j y v' e1 e2 e3
       refine⟨u',r',?_⟩
       rcases q with ⟨k,e⟩ | ⟨k,c,e,z⟩
       · refine .inl ⟨k,?_⟩
         have:y≠x:=fun e=>hj (Hb hN e1 (e ▸ hi))
         simp [this,e]
       · exact .inr ⟨k,c,e,z.sameBut hs (Xw y c e)⟩
   · obtain⟨w',z⟩:=I.cell y c e
     exact⟨w',z.sameBut hs (Xw y c e)⟩
   · obtain⟨e,n,ne,nf,d⟩:=I.pin p hp
     exact⟨(hs.2 p.1 ne).trans e,n,ne,nf,d⟩
 · have hfn:X.fn x=true:=by
     rcases hf with z | z
     · exact z
     · rw [z] at hk;cases hk
   obtain⟨c,hc⟩:=I.ok.has x (.inl hk)
   obtain⟨w',z⟩:=I.cell x c hc
   refine wpAny_storeName_cell I.ok.kind hk hc z (fun h' hc' hs=>?_)
   obtain⟨oc,hoc,au1⟩:=id z
   refine h { s with heap:=h' } ⟨I.ok,I.os,I.bare,⟨fun b o e n hb hx=>?_,fun b o e n hb hx=>?_,I.base.free,fun b o e hx=>?_,I.base.tups,I.base.j4,I.base.mZ⟩,⟨m,hn.sameBut hs (Ne.symm (Xw x c hc)),fun j y v' e1 e2 e3=>?_⟩,fun y c' e=>?_,I.free,I.jH,fun p hp=>?_,tracked ⟨oc,hoc,I.jH x c hc⟩ hs,by simpa using I.len⟩ ⟨c,hs,.inr hc⟩
   · exact (hs.2 b (Nat.ne_of_lt (Nat.lt_of_lt_of_le (Heap.lt_size e) (I.ok.cab x c hfn hc)))).trans (I.base.keep b o e n hb hx)
   · obtain⟨sl,e1⟩:=I.base.slot b o e n hb hx
     exact⟨sl,(hs.2 b (Nat.ne_of_lt (Nat.lt_of_lt_of_le (Heap.lt_size e) (I.ok.cab x c hfn hc)))).trans e1⟩
   · obtain⟨o',e1⟩:=I.base.there b o e hx
     exact⟨o',(hs.2 b (Nat.ne_of_lt (Nat.lt_of_lt_of_le (Heap.lt_size e) (I.ok.cab x c hfn hc)))).trans e1⟩
   · by_cases hj:j=i
     · subst hj
       rw [hi] at e1;cases e1
       rw [List.getElem?_set_self ah2] at e2
       cases e2
       exact⟨u,r,.inr ⟨.inl hk,c,hc,hc'⟩⟩
     · rw [List.getElem?_set_ne (Ne.symm hj)] at e2
       obtain⟨u',r',q⟩:=hl j y v' e1 e2 e3
       refine⟨u',r',?_⟩
       rcases q with q | ⟨k,c',e,z'⟩
       · exact .inl q
       · refine .inr ⟨k,c',e,z'.sameBut hs ?_⟩
         rintro rfl
         exact hj (Hb hN e1 (I.ok.inj _ _ _ e hc ▸ hi))
   · by_cases hcc:c'=c
     · subst hcc;exact⟨_,hc'⟩
     · obtain⟨w2,z2⟩:=I.cell y c' e
       exact⟨w2,z2.sameBut hs hcc⟩
   · obtain⟨e,n,ne,nf,d⟩:=I.pin p hp
     refine⟨(hs.2 p.1 ?_).trans e,n,ne,nf,d⟩
     intro q
     rw [q,hoc] at e
     have q':oc=p.2:=Option.some.inj e
     exact d w' (by rw [← q'];exact au1)
theorem zb {M:Model}{A:Around}{E:Value→Shared→Prop}{i:Nat}{x:Str}{v:V}{u:Value}{Q:Unit→Shared→Prop} (I:Inv X pins σ H s) (hN:X.N.Nodup) (hi:X.N[i]? = some x) (hx:Loc X.env.scope x) (r:RelV v u)
   (h:∀ s',Inv X pins (σ.set i (some v)) H s'→Q () s') (hf:X.fn x=true∨X.env.scope.names.lookup x=some .local:=by first | exact .inl rfl | exact .inr rfl | assumption):wpAny M A (storeName X.env x u) Q E s :=
 Mf I hN hi hx r (fun s' I' _=>h s' I') hf
theorem Inv.call' {s':Shared}{ch:List Addr} (I:Inv X pins σ H s) (ho:s'.os=s.os) (u:Un (frs X.stack) ch H H' s.heap s'.heap) (hok:uh X.prog X.w H' s'.heap) (hg:AllBare s'.gens)
   (hch:∀ b∈ch,(b∈X.ex∨X.s₀.heap.objs.size≤b)∧b≠X.env.locals∧(∀ x c,X.env.cells.lookup x=some c→c≠b)∧∀ p∈X.pn++pins,p.1≠b):Inv X pins σ H' s':=by
 obtain⟨h',g',d',t',o'⟩:=s'
 have e:o'=s.os:=ho
 subst e
 exact I.call (g':=g') (t':=t') (d':=d') u hok hg hch
end
abbrev XK:=Value→Option Addr→Hp→Prop
abbrev St:=List (Option V)
abbrev VK:=V→Hp→Prop
abbrev TE:=St→Hp→VK→Prop
abbrev TT:=St→Hp→(Bool→Hp→Prop)→Prop
abbrev TA:=St→Hp→(List V→Hp→Prop)→Prop
structure Ends where
 nx:St→Hp→Prop
 rt:VK
 bk:St→Hp→Prop:=fun _ _=>False
 ct:St→Hp→Prop:=fun _ _=>False
abbrev TS:=Ends→St→Hp→Prop
def EP (X:Cx) (pins:List (Addr × Obj)) (σ:St) (Q:VK) (u:Value) (s':Shared):Prop:=∃ v H',Inv X pins σ H' s'∧RelV v u∧Q v H'
def TP (X:Cx) (pins:List (Addr × Obj)) (σ:St) (Q:Bool→Hp→Prop) (b:Bool) (s':Shared):Prop:=∃ H',Inv X pins σ H' s'∧Q b H'
def AP (X:Cx) (pins:List (Addr × Obj)) (σ:St) (Q:List V→Hp→Prop) (us:List Value) (s':Shared):Prop:=∃ vs H',Inv X pins σ H' s'∧Vals vs us∧Q vs H'
def SP (X:Cx) (pins:List (Addr × Obj)) (D:Ends) (f:Flow) (s':Shared):Prop :=
 match f with
 | .next=>∃ σ' H',Inv X pins σ' H' s'∧D.nx σ' H'
 | .brk=>∃ σ' H',Inv X pins σ' H' s'∧D.bk σ' H'
 | .cont=>∃ σ' H',Inv X pins σ' H' s'∧D.ct σ' H'
 | .ret u=>∃ v σ' H',Inv X pins σ' H' s'∧RelV v u∧D.rt v H'
def PE (X:Cx) (e:Expr) (t:TE):Prop :=
 ∀ (pins:List (Addr × Obj)) (s:Shared) (σ:St) (H:Hp) (Q:VK),Inv X pins σ H s→t σ H Q→wpAny (model X.prog X.w) X.A (eval e X.env) (EP X pins σ Q) X.xe s
def PT (X:Cx) (e:Expr) (t:TT):Prop :=
 ∀ (pins:List (Addr × Obj)) (s:Shared) (σ:St) (H:Hp) (Q:Bool→Hp→Prop),Inv X pins σ H s→t σ H Q→wpAny (model X.prog X.w) X.A (isTrue e X.env (eval e X.env)) (TP X pins σ Q) X.xe s
def PW (X:Cx) (e:Expr) (t:TT):Prop :=
 ∀ (whole:Sem Value) (pins:List (Addr × Obj)) (s:Shared) (σ:St) (H:Hp) (Q:Bool→Hp→Prop),Inv X pins σ H s→t σ H Q→wpAny (model X.prog X.w) X.A (isTrue e X.env whole) (TP X pins σ Q) X.xe s
theorem PW.pt {X:Cx}{e:Expr}{t:TT} (h:PW X e t):PT X e t:=h _
def PA (X:Cx) (es:List Expr) (t:TA):Prop :=
 ∀ (pos:Pos) (pins:List (Addr × Obj)) (s:Shared) (σ:St) (H:Hp) (Q:List V→Hp→Prop),Inv X pins σ H s→t σ H Q→wpAny (model X.prog X.w) X.A (spliced (backTo pos (starEach es X.env))) (AP X pins σ Q) X.xe s
def PS (X:Cx) (st:Stmt) (t:TS):Prop :=
 ∀ (pins:List (Addr × Obj)) (s:Shared) (σ:St) (H:Hp) (D:Ends),Inv X pins σ H s→t D σ H→wpAny (model X.prog X.w) X.A (exec st X.env) (SP X pins D) X.xe s
def qG (X:Cx) (st:List Stmt) (t:TS):Prop :=
 ∀ (pins:List (Addr × Obj)) (s:Shared) (σ:St) (H:Hp) (D:Ends),Inv X pins σ H s→t D σ H→wpAny (model X.prog X.w) X.A (execs st X.env) (SP X pins D) X.xe s
theorem fM {α:Type}{t:Sem α}{Q Q':α→Shared→Prop}{M:Model}{A:Around}{E:Value→Shared→Prop}{s:Shared} (h:wpAny M A t Q E s) (hQ:∀ a s,Q a s→Q' a s):wpAny M A t Q' E s:=wpAny_mono h hQ fun _ _ x=>x
end L2
namespace L2
open PySem PySem.Spec PyProof.Rows
section
variable {X:Cx}
def Xx (i:Nat):TE:=fun σ H Q=>∃ v,σ[i]? = some (some v)∧Q v H
def tC (v:V):TE:=fun _ H Q=>Q v H
theorem ad3 {i:Nat}{x:Str}{pos:Pos} (hN:X.N[i]? = some x) (hv:Vis X.env.scope x) (hd:(x == ("__debug__":Str))=false:=by decide) (hcd:(x == ("__classdict__":Str))=false:=by decide):PE X (.Name x pos) (Xx i):=by
 intro pins s σ H Q I h
 obtain⟨v,e,h⟩:=h
 obtain⟨m,hn,hl⟩:=I.loc
 obtain⟨u,r,l⟩:=hl i x v hN e hv
 have fin:EP X pins σ Q u s:=⟨v,H,I,r,h⟩
 rcases l with ⟨hk,hm⟩ | ⟨hk,c,hc,hcell⟩
 · exact wpAny_Name (wpAny_loadName_local I.ok.kind hk hn hm fin) hd
 · rcases hk with hk | hk
   · exact wpAny_Name (wpAny_loadName_cell I.ok.kind hk hc hcell fin) hd
   · exact wpAny_Name (wpAny_loadName_free I.ok.kind hk hc hcell fin hcd) hd
theorem zH {i j pos}:PE X (.Constant (.int i) j pos) (tC (.int i)):=fun _ _ _ H _ I h=>wpAny_Constant_int ⟨.int i,H,I.tok _,⟨_,rfl⟩,h⟩
theorem Xy {b j pos}:PE X (.Constant (.bool b) j pos) (tC (.bl b)):=fun _ _ _ H _ I h=>Constant_bool ⟨.bl b,H,I,rfl,h⟩
theorem mq {j pos}:PE X (.Constant .none j pos) (tC .non):=fun _ _ _ H _ I h=>Constant_none ⟨.non,H,I,rfl,h⟩
theorem zQ {x j pos}:PE X (.Constant (.str x) j pos) (tC (.str x)):=fun _ _ _ H _ I h=>Calls.Constant_str ⟨.str x,H,I.tok _,⟨_,rfl⟩,h⟩
def Gl (X:Cx) (x:Str):Prop:=X.env.kindOf x=some .globalImplicit
theorem xZ {E:Value→Shared→Prop}{pins:List (Addr × Obj)}{s:Shared}{σ:St}{H:Hp}{x:Str}{u:Value}{pos:Pos}{Q:Value→Shared→Prop} (I:Inv X pins σ H s) (hg:Gl X x) (hm:X.mg x=some u) (h:Q u s)
   (hd:(x == ("__debug__":Str))=false:=by decide):wpAny (model X.prog X.w) X.A (eval (.Name x pos) X.env) Q E s :=
 Calls.Name_function_global I.ok.kind hg (Calls.loadGlobal_global (by rw [I.ok.glob];exact I.mod.glob.keeps I.bk) hm h) hd
theorem Hc {E:Value→Shared→Prop}{pins:List (Addr × Obj)}{s:Shared}{σ:St}{H:Hp}{x:Str}{u:Value}{pos:Pos}{Q:Value→Shared→Prop} (I:Inv X pins σ H s) (hg:Gl X x) (hm:X.mg x=none) (hv:bootBuiltins x=some u) (h:Q u s)
   (hn:x≠"__name__":=by decide) (hd:(x == ("__debug__":Str))=false:=by decide):wpAny (model X.prog X.w) X.A (eval (.Name x pos) X.env) Q E s:=by
 obtain⟨mb,h1,h2⟩:=I.mod.blt
 exact Calls.Name_function_global I.ok.kind hg (Calls.loadGlobal_builtin (by rw [I.ok.glob];exact I.mod.glob.keeps I.bk) hm (by rw [I.ok.blt];exact h1.keeps I.bk) ((h2 x hn).trans hv) h) hd
theorem abz {x:Str}{v:V}{u:Value}{pos:Pos} (hg:Gl X x) (hm:X.mg x=some u) (r:RelV v u) (hd:(x == ("__debug__":Str))=false:=by decide):PE X (.Name x pos) (tC v) :=
 fun _ _ _ H _ I h=>xZ I hg hm ⟨v,H,I,r,h⟩ hd
theorem Gv {x:Str}{v:V}{u:Value}{pos:Pos} (hg:Gl X x) (hm:X.mg x=none) (hv:bootBuiltins x=some u) (r:RelV v u) (hn:x≠"__name__":=by decide) (hd:(x == ("__debug__":Str))=false:=by decide):PE X (.Name x pos) (tC v) :=
 fun _ _ _ H _ I h=>Hc I hg hm hv ⟨v,H,I,r,h⟩ hn hd
variable {a b:Expr}{ta tb:TE}{pos:Pos}
def PC (X:Cx) (op:CmpOp) (a b:Expr) (t:TE):Prop :=
 ∀ (pins:List (Addr × Obj)) (s:Shared) (σ:St) (H:Hp) (Q:VK),Inv X pins σ H s→t σ H Q →
   wpAny (model X.prog X.w) X.A (eval a X.env) (fun v s₁=>wpAny (model X.prog X.w) X.A (eval b X.env) (fun u s₂=>wpAny (model X.prog X.w) X.A (compareOp op v u) (EP X pins σ Q) X.xe s₂) X.xe s₁) X.xe s
def tB (t:TE):TT:=fun σ H Q=>t σ H fun x H1=>∃ c,x=.bl c∧Q c H1
theorem yZ {e:Expr}{t:TE} (h:PE X e t) (he:∀ whole,isTrue e X.env whole=(do let v ← whole;standAt e.pos;holding [v] (truthy v)):=by intro _;rfl):PT X e (tB t):=by
 intro pins s σ H Q I hw
 refine isTrue_plain (fM (h pins s σ H _ I hw) fun v s1 ⟨x,H1,I1,r1,q1⟩=>?_) (he _)
 obtain⟨d,rfl,q⟩:=q1
 cases r1
 exact wpAny_truthy_bool ⟨H1,I1,q⟩
variable {tA tB':TT}{rest:List Expr}
def au2 (t u:TT):TT:=fun σ H Q=>t σ H fun c H1=>if c=true then u σ H1 Q else Q false H1
def tOr (t u:TT):TT:=fun σ H Q=>t σ H fun c H1=>if c=true then Q true H1 else u σ H1 Q
def au3 (t:TT):TT:=fun σ H Q=>t σ H fun c H1=>Q (!c) H1
theorem zc (ha:PT X a tA):PW X (.BoolOp .And [a] pos) tA:=by
 intro wh pins s σ H Q I h
 refine isTrue_and (fM (ha pins s σ H Q I h) fun c s1 e=>?_)
 cases c with
 | true=>exact isTrue_and_nil e
 | false=>exact e
theorem Xz (ha:PT X a tA):PW X (.BoolOp .Or [a] pos) tA:=by
 intro wh pins s σ H Q I h
 refine isTrue_or (fM (ha pins s σ H Q I h) fun c s1 e=>?_)
 cases c with
 | false=>exact isTrue_or_nil e
 | true=>exact e
theorem Bl (ha:PT X a tA) (hb:PW X (.BoolOp .And (b::rest) pos) tB'):PW X (.BoolOp .And (a::b::rest) pos) (au2 tA tB'):=by
 intro wh pins s σ H Q I h
 refine isTrue_and (fM (ha pins s σ H _ I h) fun c s1 zq=>?_)
 obtain⟨H1,I1,q1⟩:=zq
 cases c with
 | true=>exact hb wh pins s1 σ H1 Q I1 q1
 | false=>exact⟨H1,I1,q1⟩
theorem acY (ha:PT X a tA) (hb:PW X (.BoolOp .Or (b::rest) pos) tB'):PW X (.BoolOp .Or (a::b::rest) pos) (tOr tA tB'):=by
 intro wh pins s σ H Q I h
 refine isTrue_or (fM (ha pins s σ H _ I h) fun c s1 zq=>?_)
 obtain⟨H1,I1,q1⟩:=zq
 cases c with
 | true=>exact⟨H1,I1,q1⟩
 | false=>exact hb wh pins s1 σ H1 Q I1 q1
theorem um (ha:PT X a tA):PT X (.UnaryOp .Not a pos) (au3 tA):=by
 intro pins s σ H Q I h
 exact isTrue_not (ha pins s σ H (fun c H1=>Q (!c) H1) I h)
def ah3 (ta tb:TE):TE:=fun σ H Q=>ta σ H fun x H1=>∃ c,x=.bl c∧if c=true then tb σ H1 Q else Q (.bl false) H1
def au4 (ta tb:TE):TE:=fun σ H Q=>ta σ H fun x H1=>∃ c,x=.bl c∧if c=true then Q (.bl true) H1 else tb σ H1 Q
def ah4 (ta:TE):TE:=fun σ H Q=>ta σ H fun x H1=>∃ c,x=.bl c∧Q (.bl (!c)) H1
theorem uo {op}{t:TE} (h:PE X a t):PE X (.BoolOp op [a] pos) t:=fun pins s σ H Q I hw=>BoolOp_one (h pins s σ H Q I hw)
theorem uq (ha:PE X a ta) (hb:PE X (.BoolOp .And (b::rest) pos) tb):PE X (.BoolOp .And (a::b::rest) pos) (ah3 ta tb):=by
 intro pins s σ H Q I h
 refine BoolOp_and (fM (ha pins s σ H _ I h) fun v s1 zq=>?_)
 obtain⟨x,H1,I1,r1,q1⟩:=zq
 obtain⟨c,rfl,q1⟩:=q1
 cases r1
 refine wpAny_truthy_bool ?_
 cases c with
 | true=>exact hb pins s1 σ H1 Q I1 q1
 | false=>exact⟨.bl false,H1,I1,rfl,q1⟩
theorem ah5 (ha:PE X a ta) (hb:PE X (.BoolOp .Or (b::rest) pos) tb):PE X (.BoolOp .Or (a::b::rest) pos) (au4 ta tb):=by
 intro pins s σ H Q I h
 refine BoolOp_or (fM (ha pins s σ H _ I h) fun v s1 zq=>?_)
 obtain⟨x,H1,I1,r1,q1⟩:=zq
 obtain⟨c,rfl,q1⟩:=q1
 cases r1
 refine wpAny_truthy_bool ?_
 cases c with
 | false=>exact hb pins s1 σ H1 Q I1 q1
 | true=>exact⟨.bl true,H1,I1,rfl,q1⟩
theorem ad4 (ha:PE X a ta):PE X (.UnaryOp .Not a pos) (ah4 ta):=by
 intro pins s σ H Q I h
 refine UnaryOp_ (fM (ha pins s σ H _ I h) fun v s1 zq=>?_)
 obtain⟨x,H1,I1,r1,q1⟩:=zq
 obtain⟨c,rfl,q1⟩:=q1
 cases r1
 exact not_of (wpAny_truthy_bool ⟨.bl (!c),H1,I1,rfl,q1⟩)
def tIf (t:TT) (ta tb:TE):TE:=fun σ H Q=>t σ H fun c H1=>if c=true then ta σ H1 Q else tb σ H1 Q
theorem ur {c:Expr} (hc:PT X c tA) (ha:PE X a ta) (hb:PE X b tb):PE X (.IfExp c a b pos) (tIf tA ta tb):=by
 intro pins s σ H Q I h
 refine wpAny_IfExp (fM (hc pins s σ H _ I h) fun d s1 zq=>?_)
 obtain⟨H1,I1,q1⟩:=zq
 cases d with
 | true=>exact ha pins s1 σ H1 Q I1 q1
 | false=>exact hb pins s1 σ H1 Q I1 q1
end
end L2
namespace L2
open PySem PySem.Spec PyProof.Rows
def cB (K:PySem.W.Frag) (H:Hp) (a:Addr) (xs:List V):Prop :=
 Rd H a (.lst xs) ∨
   ∃ (o:Obj) (its:Array Value) (n:Nat),K.lookup a=some o∧o.cls=.type "list"∧o.dict=none∧o.data=.seq its n∧its.size≤sizeLine∧Vals xs its.toList
def jJ (K:PySem.W.Frag) (H:Hp) (a:Addr) (xs:List V):Prop :=
 Rd H a (.tup xs) ∨
   ∃ (o:Obj) (its:Array Value) (n:Nat),K.lookup a=some o∧o.cls=.type "tuple"∧o.data=.seq its n∧its.size≤sizeLine∧Vals xs its.toList
def au5:Value→Option V
 | .none=>some .non
 | .bool b=>some (.bl b)
 | .int i _=>some (.int i)
 | .str x _=>some (.str x)
 | .bytes b _=>some (.Xn b)
 | .float b _=>some (.flt b)
 | .ref a=>some (.ref a)
 | .type n=>some (.ty n)
 | _=>none
theorem RelV.abs {x:V}{u:Value} (r:RelV x u):au5 u=some x:=by
 cases x with
 | non=>cases r;rfl
 | bl _=>cases r;rfl
 | int _=>obtain⟨t,rfl⟩:=r;rfl
 | str _=>obtain⟨t,rfl⟩:=r;rfl
 | Xn _=>obtain⟨t,rfl⟩:=r;rfl
 | flt _=>obtain⟨t,rfl⟩:=r;rfl
 | ref _=>cases r;rfl
 | ty _=>cases r;rfl
theorem RelV.inj {x y:V}{u:Value} (r:RelV x u) (q:RelV y u):x=y:=Option.some.inj (r.abs.symm.trans q.abs)
theorem Vals.inj:∀ {xs ys:List V}{us:List Value},Vals xs us→Vals ys us→xs=ys
 | _,_,_,.nil,.nil=>rfl
 | _,_,_,.cons r t,.cons r' t'=>by rw [r.inj r',Vals.inj t t']
section
variable {X:Cx}{pins:List (Addr × Obj)}{σ:St}{H:Hp}{s:Shared}{a:Addr}{xs ys:List V}
theorem cB.of {K:PySem.W.Frag} (h:H a=some (.lst xs)):cB K H a xs:=.inl (.inl h)
theorem jJ.of {K:PySem.W.Frag} (h:H a=some (.tup xs)):jJ K H a xs:=.inl (.inl h)
theorem Inv.list (I:Inv X pins σ H s) (h:cB X.K H a xs):∃ its:List Value,Vals xs its∧PlainL s.heap a its.toArray∧xs.length≤sizeLine:=by
 rcases h with h | ⟨o,its,n,hk,hc,hd,hs,hz,r⟩
 · obtain⟨z,its,n,r,e⟩:=h.ok I.hok
   exact⟨its,r,⟨_,n,e,rfl,rfl,rfl⟩,z⟩
 · refine⟨its.toList,r,⟨o,n,I.ug a o hk,hc,hd,by simpa using hs⟩,?_⟩
   have e:=r.length
   simp only [Array.length_toList] at e
   omega
theorem Inv.tuple (I:Inv X pins σ H s) (h:jJ X.K H a xs):∃ its:List Value,Vals xs its∧IsTup s.heap a its.toArray∧xs.length≤sizeLine:=by
 rcases h with h | ⟨o,its,n,hk,hc,hs,hz,r⟩
 · obtain⟨z,its,r,p⟩:=h.ok I.hok
   exact⟨its,r,p,z⟩
 · refine⟨its.toList,r,⟨o,I.ug a o hk,hc,n,by simpa using hs⟩,?_⟩
   have e:=r.length
   simp only [Array.length_toList] at e
   omega
theorem Inv.PX (I:Inv X pins σ H s) (h:cB X.K H a xs) (h':cB X.K H a ys):xs=ys:=by
 obtain⟨its,r,⟨o,n,e,_,_,d⟩,_⟩:=I.list h
 obtain⟨its',r',⟨o',n',e',_,_,d'⟩,_⟩:=I.list h'
 rw [e] at e';cases e'
 rw [d] at d'
 injection d' with d1 _
 have:its=its':=by simpa using congrArg Array.toList d1
 subst this
 exact r.inj r'
end
abbrev Cx.wish (X:Cx) (E:Value→Shared→Prop):Cx:={ X with xe:=E }
abbrev Cx.RT (X:Cx):Cx:=X.wish fun _ _=>False
theorem Cx.Ok.wish {X:Cx} (ok:X.Ok) (E:Value→Shared→Prop):(X.wish E).Ok :=
 ⟨ok.mod,ok.kind,ok.glob,ok.blt,ok.above,ok.inj,ok.has,ok.cab,ok.hd,ok.frames,ok.stk,ok.exf,ok.bs,ok.Xu,ok.V1,ok.Xv,ok.wK,ok.frf⟩
theorem Cx.Ok.iB {X:Cx}{E:Value→Shared→Prop} (ok:(X.wish E).Ok):X.Ok :=
 ⟨ok.mod,ok.kind,ok.glob,ok.blt,ok.above,ok.inj,ok.has,ok.cab,ok.hd,ok.frames,ok.stk,ok.exf,ok.bs,ok.Xu,ok.V1,ok.Xv,ok.wK,ok.frf⟩
section
variable {X:Cx}{pins:List (Addr × Obj)}{σ:St}{H:Hp}{s:Shared}{E:Value→Shared→Prop}
theorem Inv.wish (I:Inv X pins σ H s) (E:Value→Shared→Prop):Inv (X.wish E) pins σ H s:=⟨I.ok.wish E,I.os,I.bare,I.base,I.loc,I.cell,I.free,I.jH,I.pin,I.hok,I.len⟩
theorem Inv.iB (I:Inv (X.wish E) pins σ H s):Inv X pins σ H s:=⟨I.ok.iB,I.os,I.bare,I.base,I.loc,I.cell,I.free,I.jH,I.pin,I.hok,I.len⟩
theorem SP.iB {D:Ends}{f:Flow}{s':Shared} (h:SP (X.wish E) pins D f s'):SP X pins D f s':=by
 cases f with
 | next=>obtain⟨σ',H',I,q⟩:=h;exact⟨σ',H',I.iB,q⟩
 | brk=>obtain⟨σ',H',I,q⟩:=h;exact⟨σ',H',I.iB,q⟩
 | cont=>obtain⟨σ',H',I,q⟩:=h;exact⟨σ',H',I.iB,q⟩
 | ret u=>obtain⟨v,σ',H',I,r,q⟩:=h;exact⟨v,σ',H',I.iB,r,q⟩
theorem PE.RT {e:Expr}{t:TE} (h:PE X.RT e t):PE X e t:=fun pins s σ H Q I hw =>
 wpAny_mono (h pins s σ H Q (I.wish _) hw) (fun _ _ ⟨v,H',I',r,q⟩=>⟨v,H',I'.iB,r,q⟩) fun _ _ z=>False.elim z
theorem PT.RT {e:Expr}{t:TT} (h:PT X.RT e t):PT X e t:=fun pins s σ H Q I hw =>
 wpAny_mono (h pins s σ H Q (I.wish _) hw) (fun _ _ ⟨H',I',q⟩=>⟨H',I'.iB,q⟩) fun _ _ z=>False.elim z
theorem qG.RT {st:List Stmt}{t:TS} (h:qG X.RT st t):qG X st t:=fun pins s σ H D I hw =>
 wpAny_mono (h pins s σ H D (I.wish _) hw) (fun _ _ q=>q.iB) fun _ _ z=>False.elim z
end
section
variable {X:Cx}{st:Stmt}{rest:List Stmt}{t u:TS}{e:Expr}{te:TE}{pos:Pos}
def ah6:TS:=fun D σ H=>D.nx σ H
def abA (t u:TS):TS:=fun D σ H=>t { D with nx:=u D } σ H
theorem zU:qG X [] ah6:=fun _ _ σ H _ I h=>wpAny_execs_nil ⟨σ,H,I,h⟩
theorem zD (h1:PS X st t) (h2:qG X rest u):qG X (st::rest) (abA t u):=by
 intro pins s σ H D I h
 refine wpAny_execs_cons (fM (h1 pins s σ H { D with nx:=u D } I h) fun f s1 q=>?_)
 cases f with
 | next =>
   obtain⟨σ',H',I',q⟩:=q
   exact h2 pins s1 σ' H' D I' q
 | ret v=>exact q
 | brk=>exact q
 | cont=>exact q
theorem zF (h1:PS X st t):qG X [st] t:=by
 intro pins s σ H D I h
 refine wpAny_execs_cons (fM (h1 pins s σ H D I h) fun f s1 q=>?_)
 cases f with
 | next=>exact wpAny_execs_nil q
 | ret v=>exact q
 | brk=>exact q
 | cont=>exact q
theorem Inv.quiet {pins:List (Addr × Obj)}{σ:St}{H:Hp}{s:Shared} (I:Inv X pins σ H s):interactive X.env=false:=by simp [interactive,I.ok.kind]
def ah7 (te:TE):TS:=fun D σ H=>te σ H fun _ H1=>D.nx σ H1
theorem yK (he:PE X e te) (hs:swapsWith e none pos.line X.env=pure false:=by rfl):PS X (.Expr e pos) (ah7 te):=by
 intro pins s σ H D I h
 exact wpAny_Expr_any (fM (he pins s σ H _ I h) fun v s1 ⟨x,H1,I1,r1,q1⟩=>⟨σ,H1,I1,q1⟩) I.quiet hs
def ah8 (te:TE):TS:=fun D σ H=>te σ H D.rt
theorem zR (he:PE X e te):PS X (.Return (some e) pos) (ah8 te):=by
 intro pins s σ H D I h
 exact wpAny_Return_some (fM (he pins s σ H _ I h) fun v s1 ⟨x,H1,I1,r1,q1⟩=>⟨x,σ,H1,I1,r1,q1⟩)
def ah9:TS:=fun D _ H=>D.rt .non H
theorem abB:PS X (.Return none pos) ah9:=fun _ _ σ H _ I h=>wpAny_Return_none ⟨.non,σ,H,I,rfl,h⟩
def au6 (c:TT) (t u:TS):TS:=fun D σ H=>c σ H fun b H1=>if b=true then t D σ H1 else u D σ H1
theorem yF {c:Expr}{a b:List Stmt}{tc:TT} (hc:PT X c tc) (ha:qG X a t) (hb:qG X b u):PS X (.If c a b pos) (au6 tc t u):=by
 intro pins s σ H D I h
 refine wpAny_If (fM (hc pins s σ H _ I h) fun d s1 zq=>?_)
 obtain⟨H1,I1,q1⟩:=zq
 cases d with
 | true=>exact ha pins s1 σ H1 D I1 q1
 | false=>exact hb pins s1 σ H1 D I1 q1
end
abbrev TG:=V→St→Hp→(St→Hp→Prop)→Prop
abbrev TGs:=List V→St→Hp→(St→Hp→Prop)→Prop
def PG (X:Cx) (target:Expr) (t:TG):Prop :=
 ∀ (pins:List (Addr × Obj)) (s:Shared) (σ:St) (H:Hp) (v:V) (u:Value) (Q:St→Hp→Prop),Inv X pins σ H s→RelV v u→t v σ H Q →
   wpAny (model X.prog X.w) X.A (assign target X.env u) (fun _ s'=>∃ σ' H',Inv X pins σ' H' s'∧Q σ' H') X.xe s
def Bm (X:Cx) (ts:List Expr) (t:TGs):Prop :=
 ∀ (pins:List (Addr × Obj)) (s:Shared) (σ:St) (H:Hp) (vs:List V) (us:List Value) (Q:St→Hp→Prop),Inv X pins σ H s→Vals vs us→t vs σ H Q →
   wpAny (model X.prog X.w) X.A (assignInOrder ((assignEach ts X.env).map (·.2)) us) (fun _ s'=>∃ σ' H',Inv X pins σ' H' s'∧Q σ' H') X.xe s
abbrev au7:=V→V→V→Hp→(Hp→Prop)→Prop
def nJ (X:Cx) (t:au7):Prop :=
 ∀ (pins:List (Addr × Obj)) (s:Shared) (σ:St) (H:Hp) (o i v:V) (ov iv u:Value) (Q:Hp→Prop),Inv X pins σ H s→RelV o ov→RelV i iv→RelV v u→t o i v H Q →
   wpAny (model X.prog X.w) X.A (setItem ov iv u) (fun _ s'=>∃ H',Inv X pins σ H' s'∧Q H') X.xe s
section
variable {X:Cx}{pos:Pos}
def bC (i:Nat):TG:=fun v σ H Q=>Q (σ.set i (some v)) H
theorem zX {i:Nat}{x:Str} (hN:X.N.Nodup) (hi:X.N[i]? = some x) (hx:Loc X.env.scope x) (hf:X.fn x=true∨X.env.scope.names.lookup x=some .local:=by first | exact .inl rfl | exact .inr rfl | assumption):PG X (.Name x pos) (bC i):=by
 intro pins s σ H v u Q I r h
 exact wpAny_assign_Name (zb I hN hi hx r (fun s' I'=>⟨_,H,I',h⟩) hf)
def aia:TGs:=fun vs σ H Q=>vs=[]∧Q σ H
def XC (t:TG) (u:TGs):TGs:=fun vs σ H Q=>∃ v r,vs=v::r∧t v σ H fun σ' H'=>u r σ' H' Q
theorem xL:Bm X [] aia:=by
 intro pins s σ H vs us Q I r h
 obtain⟨e,h⟩:=h
 subst e
 cases r
 exact assignInOrder_nil ⟨σ,H,I,h⟩
theorem yB {e:Expr}{es:List Expr}{t:TG}{u:TGs} (h1:PG X e t) (h2:Bm X es u)
   (hs:(assignEach (e::es) X.env).map (·.2)=assign e X.env::(assignEach es X.env).map (·.2):=by rfl):Bm X (e::es) (XC t u):=by
 intro pins s σ H vs us Q I r h
 obtain⟨v,vr,e1,h⟩:=h
 subst e1
 cases r with
 | cons r rr =>
   rw [hs]
   refine assignInOrder_cons (fM (h1 pins s σ H _ _ _ I r h) fun _ s1 zq=>?_)
   obtain⟨σ1,H1,I1,q1⟩:=zq
   exact h2 pins s1 σ1 H1 _ _ Q I1 rr q1
def aib (K:PySem.W.Frag) (n:Nat) (t:TGs):TG:=fun v σ H Q=>∃ a xs,v=.ref a∧jJ K H a xs∧xs.length=n∧t xs σ H Q
theorem j5 {es:List Expr}{k:Nat}{t:TGs}{n:Nat} (hc:X.calm=true) (h:Bm X es t)
   (hn:(assignEach es X.env).length=n:=by rfl) (hst:(assignEach es X.env).findIdx? (·.1)=none:=by rfl):PG X (.Tuple es k pos) (aib X.K n t):=by
 intro pins s σ H v u Q I r hw
 obtain⟨a,xs,e1,hq,hl,hw⟩:=hw
 subst e1
 cases r
 obtain⟨its,rv,ht,hz⟩:=I.tuple hq
 refine assign_Tuple_tuple (I.ok.hd hc) ht (by simp [hn,← hl,rv.length]) hst fun h' hx=>?_
 have I1:Inv X pins σ H { s with heap:=h' }:=I.kept (t':=s.toks) fun b o e=>hx b o (Nat.ne_of_lt (Heap.lt_size e)) e
 exact h pins _ σ H xs _ Q I1 (by simpa using rv) hw
def abC (te:TE) (g:TG):TS:=fun D σ H=>te σ H fun x H1=>g x σ H1 D.nx
theorem XD {tg e:Expr}{te:TE}{g:TG} (he:PE X e te) (hg:PG X tg g) (hs:swapsWithSole [tg] e pos.line X.env=pure false:=by rfl) (hw:swappedStores [tg] e X.env=pure none:=by rfl)
   (h1:(assignEach [tg] X.env).map (·.2)=[assign tg X.env]:=by rfl):PS X (.Assign [tg] e pos) (abC te g):=by
 intro pins s σ H D I h
 refine wpAny_Assign_stores (fM (he pins s σ H _ I h) fun v s1 ⟨x,H1,I1,r1,q1⟩=>?_) hs hw
 rw [h1]
 exact fM (hg pins s1 σ H1 x v _ I1 r1 q1) fun _ s2 q=>q
theorem zS {i:Nat}{x:Str}{e:Expr}{te:TE}{pos':Pos} (hN:X.N.Nodup) (hi:X.N[i]? = some x) (hx:Loc X.env.scope x) (he:PE X e te) (hs:swapsWith e (some (.Name x pos')) pos.line X.env=pure false:=by rfl) (hf:X.fn x=true∨X.env.scope.names.lookup x=some .local:=by first | exact .inl rfl | exact .inr rfl | assumption) :
   PS X (.Assign [.Name x pos'] e pos) (abC te (bC i)):=by
 intro pins s σ H D I h
 refine wpAny_Assign_Name (fM (he pins s σ H _ I h) fun v s1 ⟨y,H1,I1,r1,q1⟩=>?_) hs
 exact zb I1 hN hi hx r1 (fun s2 I2=>⟨_,H1,I2,q1⟩) hf
end
section
variable {X:Cx}{pos:Pos}
def ad6 (c:TT) (tb:TS):TS:=fun D σ H=>∃ W:Nat→St→Hp→Prop,(∃ m,W m σ H)∧∀ m σ H,W m σ H →
 c σ H fun b H1=>if b=true then ∃ N:St→Hp→Prop,(∀ σ' H',N σ' H'→∃ m',m'<m∧W m' σ' H')∧tb { D with nx:=N,ct:=N,bk:=D.nx } σ H1 else D.nx σ H1
end
structure It where
 go:Nat→Hp→Prop
 V2:Nat→Hp→V→Hp→Prop
 stop:Nat→Hp→Prop
def qH (X:Cx) (pins:List (Addr × Obj)) (H:Hp) (b:Addr):Prop :=
 H b=none∧b≠X.env.locals∧b∉X.fs∧(b∈X.ex∨X.s₀.heap.objs.size≤b)∧(∀ x c,X.env.cells.lookup x=some c→c≠b)∧∀ p∈X.pn++pins,p.1≠b
theorem Inv.Hd {X:Cx}{pins:List (Addr × Obj)}{σ:St}{H H':Hp}{s:Shared}{b:Addr} (I:Inv X pins σ H s) (hb:s.heap.objs.size≤b) (hn:H' b=none):qH X pins H' b:=by
 refine⟨hn,Nat.ne_of_gt (Nat.lt_of_lt_of_le I.lt hb),I.ad2 hb,.inr (Nat.le_trans I.sz hb),fun x c e z=>?_,fun p hp z=>?_⟩
 · obtain⟨v,q⟩:=I.cell x c e
   exact absurd (Nat.lt_of_lt_of_le q.lt (by rw [z];exact hb)) (Nat.lt_irrefl _)
 · exact absurd (Nat.lt_of_lt_of_le (Heap.lt_size (I.pin p hp).1) (by rw [z];exact hb)) (Nat.lt_irrefl _)
structure Turn (P:Program) (w:World) (K:PySem.W.Frag) (tg:Expr) (J:It) (fp:List Addr) (it:Addr) (tn:Nat→Heap→Prop):Prop where
 mem:it∈fp
 obj:∀ i h,tn i h→∀ b∈fp,∃ o,h.get? b=some o∧∀ v,o.data≠.cell v
 keep:∀ i h h',tn i h→(∀ b∈fp,∀ o,h.get? b=some o→h'.get? b=some o)→tn i h'
 item:∀ (X:Cx),X.prog=P→X.w=w→X.K=K→X.calm=true→∀ (i:Nat) (pins:List (Addr × Obj)) (s:Shared) (σ:St) (H:Hp) (E:Value→Shared→Prop),Inv X pins σ H s→(∀ b∈fp,qH X pins H b)→tn i s.heap→J.go i H →
   wpAny (model P w) X.A (pyNext (.ref it)) (fun r s1=>∃ u,r=some u ∧
     wpAny (model P w) X.A (letOwnedTupleGo tg (.ref it) u) (fun _ s2=>∃ x H',Inv X pins σ H' s2∧RelV x u∧J.V2 i H x H'∧tn (i+1) s2.heap∧∀ b∈fp,H' b=none) E s1) E s
 done:∀ (X:Cx),X.prog=P→X.w=w→X.K=K→X.calm=true→∀ (i:Nat) (pins:List (Addr × Obj)) (s:Shared) (σ:St) (H:Hp) (E:Value→Shared→Prop),Inv X pins σ H s→(∀ b∈fp,qH X pins H b)→tn i s.heap→J.stop i H →
   wpAny (model P w) X.A (pyNext (.ref it)) (fun r s1=>r=none∧Inv X pins σ H s1) E s
 self:∀ (A:Around) (i:Nat) (s:Shared) (Q:Value→Shared→Prop) (E:Value→Shared→Prop),tn i s.heap→Q (.ref it) s→wpAny (model P w) A (pyIter (.ref it)) Q E s
abbrev TI:=St→Hp→(It→Hp→Prop)→Prop
def PIE (X:Cx) (pins:List (Addr × Obj)) (σ:St) (tg:Expr) (R:It→Hp→Prop) (itv:Value) (s2:Shared):Prop :=
 ∃ (it:Addr) (fp:List Addr) (tn:Nat→Heap→Prop) (J:It) (H':Hp),itv=.ref it∧Inv X pins σ H' s2∧Turn X.prog X.w X.K tg J fp it tn∧tn 0 s2.heap∧(∀ b∈fp,qH X pins H' b)∧R J H'
def PI (X:Cx) (tg iter:Expr) (wi:TI):Prop :=
 ∀ (pins:List (Addr × Obj)) (s:Shared) (σ:St) (H:Hp) (R:It→Hp→Prop),Inv X pins σ H s→wi σ H R →
   wpAny (model X.prog X.w) X.A (eval iter X.env) (fun v s1=>wpAny (model X.prog X.w) X.A (pyIter v) (PIE X pins σ tg R) X.xe s1) X.xe s
theorem XF {M:Model}{A:Around}{E:Value→Shared→Prop}{s:Shared}{tg:Expr}{it:Addr}{u:Value}{o:Obj}{n:String}{vs:Array Value}{Q:Unit→Shared→Prop} (ho:s.heap.get? it=some o) (hc:o.cls=.type n) (hd:o.data=.fields vs)
   (hn:["enumerate","zip","dict_itemiterator","dict_reverseitemiterator","odict_iterator","itertools.zip_longest","itertools.pairwise"].contains n=false) (hQ:Q () s):wpAny M A (letOwnedTupleGo tg (.ref it) u) Q E s:=by
 unfold letOwnedTupleGo
 cases tg <;> first
   | exact wpAny_pure hQ
   | (cases u <;> first
       | exact wpAny_pure hQ
       | (refine wpAny_bind (wpAny_load ho ?_)
          rw [hc,hd]
          show wpAny M A (if (["enumerate","zip","dict_itemiterator","dict_reverseitemiterator","odict_iterator","itertools.zip_longest","itertools.pairwise"].contains n && vs[0]? == some (rawInt _))=true then _ else _) Q E s
          rw [if_neg (by intro h;rw [hn,Bool.false_and] at h;cases h)]
          exact wpAny_pure hQ))
def Itl (K:PySem.W.Frag) (a:Addr):It :=
 ⟨fun i H=>∃ xs x,cB K H a xs∧xs[i]? = some x,fun i H x H'=>H'=H∧∀ xs,cB K H a xs→xs[i]? = some x,fun i H=>∃ xs,cB K H a xs∧xs.length≤i⟩
def Itr (lo:Int) (n:Nat):It:=⟨fun i _=>i<n,fun i H x H'=>H'=H∧x=.int (lo+i),fun i _=>n≤i⟩
theorem V3 {P:Program}{w:World}{K:PySem.W.Frag}{tg:Expr} (a it:Addr):Turn P w K tg (Itl K a) [it] it (fun i h=>h.IsListIter it a i) where
 mem:=by simp
 obj:=fun i h st b hb=>by
   have e:b=it:=by simpa using hb
   subst e
   obtain⟨o,e,c,d⟩:=st
   exact⟨o,e,fun v z=>by rw [d] at z;cases z⟩
 keep:=fun i h h' st k=>st.at fun o e=>k it (by simp) o e
 item:=by
   intro X hP hw hK hc i pins s σ H E I hf st hg
   subst hP hw hK
   obtain⟨xs,x,hq,hx⟩:=hg
   obtain⟨its,rv,p,hz⟩:=I.list hq
   obtain⟨u,hu,ru⟩:=rv.get hx
   obtain⟨f0,f1,f2,f3,f4,f5⟩:=hf it (by simp)
   refine wpAny_pyNext_list_item st p.isList (x:=u) (by simpa using hu) fun h' st' sb=>?_
   have I1:Inv X pins σ H { s with heap:=h' }:=I.turned (t':=s.toks) (fun b o hb e=>(sb.2 b hb).trans e) f0 f1 f3 f4 f5
   obtain⟨o,e,c,d⟩:=id st'
   exact⟨u,rfl,XF (s:={ s with heap:=h' }) e c d (by decide) ⟨x,H,I1,ru,⟨rfl,fun ys hy=>by rw [I.PX hy hq];exact hx⟩,st',fun b hb=>(hf b hb).1⟩⟩
 done:=by
   intro X hP hw hK hc i pins s σ H E I hf st hg
   subst hP hw hK
   obtain⟨xs,hq,hx⟩:=hg
   obtain⟨its,rv,p,hz⟩:=I.list hq
   obtain⟨f0,f1,f2,f3,f4,f5⟩:=hf it (by simp)
   have hl:=rv.length
   exact wpAny_pyNext_list_end (I.ok.hd hc) st p.isList (by simp;omega) fun h' eb=>⟨rfl,I.turned (t':=s.toks) (fun b o hb e=>eb b o hb e) f0 f1 f3 f4 f5⟩
 self:=fun _ _ _ _ _ st h=>wpAny_pyIter_listiter st h
theorem R3 {P:Program}{w:World}{K:PySem.W.Frag}{tg:Expr} (it:Addr) (lo:Int) (n:Nat):Turn P w K tg (Itr lo n) [it] it (fun i h=>IsRangeIter h it (lo+(i:Nat)*1) ((n:Int) - (i:Nat)) 1) where
 mem:=by simp
 obj:=fun i h st b hb=>by
   have e:b=it:=by simpa using hb
   subst e
   exact⟨_,st,fun v z=>by
     have z':Data.fields _=Data.cell v:=z
     cases z'⟩
 keep:=fun i h h' st k=>k it (by simp) _ st
 item:=by
   intro X hP hw hK hc i pins s σ H E I hf st hg
   subst hP hw hK
   obtain⟨f0,f1,f2,f3,f4,f5⟩:=hf it (by simp)
   have W:=Walks.range (prog:=X.prog) (w:=X.w) (I.ok.hd hc) it lo 1 n
   refine W.item i s _ _ hg st fun v h' tk hv st' kk=>?_
   obtain⟨t,rfl⟩:=hv
   have I1:Inv X pins σ H { s with heap:=h',toks:=tk }:=I.turned (fun b o hb e=>kk b o (by simpa using hb) e) f0 f1 f3 f4 f5
   refine⟨_,rfl,XF (s:={ s with heap:=h',toks:=tk }) (n:="range_iterator") st' rfl rfl (by decide) ⟨.int (lo+i),H,I1,⟨t,?_⟩,⟨rfl,rfl⟩,st',fun b hb=>(hf b hb).1⟩⟩
   rw [Int.mul_one]
 done:=by
   intro X hP hw hK hc i pins s σ H E I hf st hg
   subst hP hw hK
   obtain⟨f0,f1,f2,f3,f4,f5⟩:=hf it (by simp)
   exact wpAny_pyNext_range_end (I.ok.hd hc) st (by have:n≤i:=hg;omega) fun h' eb=>⟨rfl,I.turned (t':=s.toks) (fun b o hb e=>eb b o hb e) f0 f1 f3 f4 f5⟩
 self:=fun _ _ _ _ _ st h=>wpAny_pyIter_rangeiter st h
end L2
namespace L2
open PySem PySem.Spec PyProof.Rows
section
variable {X:Cx}{tg:Expr}
def aic (K:PySem.W.Frag) (tl:TE):TI:=fun σ H R=>tl σ H fun x H1=>∃ a,x=.ref a∧(∃ xs,cB K H1 a xs)∧R (Itl K a) H1
theorem yO {l:Expr}{tl:TE} (hl:PE X l tl):PI X tg l (aic X.K tl):=by
 intro pins s σ H R I h
 refine fM (hl pins s σ H _ I h) fun v s1 zq=>?_
 obtain⟨x,H1,I1,r1,q1⟩:=zq
 obtain⟨a,e,⟨xs,hq⟩,q⟩:=q1
 subst e
 cases r1
 obtain⟨its,rv,p,hz⟩:=I1.list hq
 refine wpAny_pyIter_list p.isList ?_
 refine⟨s1.heap.objs.size,[s1.heap.objs.size],_,_,H1,rfl,I1.kept (t':=s1.toks) fun b o e=>Heap.get?_push_of_some _ e,V3 a _,⟨_,Heap.get?_push_size _ rfl,rfl,rfl⟩,fun b hb=>?_,q⟩
 have e:b=s1.heap.objs.size:=by simpa using hb
 subst e
 exact I1.Hd (Nat.le_refl _) (I1.hok.fresh (Nat.le_refl _))
theorem XH {pins:List (Addr × Obj)}{σ:St}{H:Hp}{s:Shared}{R:It→Hp→Prop}{E:Value→Shared→Prop}{lo hi:Int}{t u v:Tok}{tk:Nat} (I:Inv X pins σ H s) (h1:-(2 ^ 62)≤lo) (h2:lo<2 ^ 62) (h3:-(2 ^ 62)≤hi) (h4:hi<2 ^ 62)
   (q:R (Itr lo (hi - lo).toNat) H):wpAny (model X.prog X.w) X.A (pyIter (.ref s.heap.objs.size)) (PIE X pins σ tg R) E { s with heap:=s.heap.push { cls:=.type "range",data:=.fields #[.int lo t,.int hi u,.int 1 v] },toks:=tk }:=by
 refine wpAny_pyIter_range (IsRange.new ..) (small_one h1 h2 h3 h4) ?_
 have I1:Inv X pins σ H { s with heap:=s.heap.push { cls:=.type "range",data:=.fields #[.int lo t,.int hi u,.int 1 v] },toks:=tk }:=I.kept fun b o e=>Heap.get?_push_of_some _ e
 refine⟨(s.heap.push { cls:=.type "range",data:=.fields #[.int lo t,.int hi u,.int 1 v] }).objs.size,[(s.heap.push { cls:=.type "range",data:=.fields #[.int lo t,.int hi u,.int 1 v] }).objs.size],_,_,H,rfl,
   I1.kept (t':=tk) fun b o e=>Heap.get?_push_of_some _ e,R3 _ lo (hi - lo).toNat,?_,fun b hb=>?_,q⟩
 · have e1:lo+((0:Nat):Int)*1=lo:=by simp
   have e2:(((hi - lo).toNat:Nat):Int) - ((0:Nat):Int)=Builtin.Range.rangeSize lo hi 1:=by rw [rangeSize_one];split <;> omega
   show IsRangeIter _ _ (lo+((0:Nat):Int)*1) ((((hi - lo).toNat:Nat):Int) - ((0:Nat):Int)) 1
   rw [e1,e2]
   exact Heap.get?_push_size _ rfl
 · have e:b=(s.heap.push { cls:=.type "range",data:=.fields #[.int lo t,.int hi u,.int 1 v] }).objs.size:=by simpa using hb
   subst e
   exact I1.Hd (Nat.le_refl _) (I1.hok.fresh (Nat.le_refl _))
def aid (ta:TA):TI:=fun σ H R=>ta σ H fun vs H1=>∃ j:Int,vs=[.int j]∧-(2 ^ 62)≤j∧j<2 ^ 62∧R (Itr 0 j.toNat) H1
theorem vC {a:Expr}{ta:TA}{p pos:Pos} (hg:Gl X "range") (hm:X.mg "range" = none) (ha:PA X [a] ta) (hs:starEach [a] X.env=[(false,eval a X.env)]:=by rfl):PI X tg (.Call (.Name "range" p) [a] [] pos) (aid ta):=by
 intro pins s σ H R I h
 refine Call_ (Hc I hg hm boot_range (PyProof.Rows.callWith_type1 (fM (ha pos pins s σ H _ I h) fun us s1 ⟨vs,H1,I1,r1,q1⟩=>?_) hs rfl))
 obtain⟨j,e,q1,q2,q⟩:=q1
 subst e
 cases r1 with
 | cons r rr =>
   cases rr
   obtain⟨t,rfl⟩:=r
   exact call_range_1 (XH I1 (by omega) (by omega) q1 q2 (by simpa using q))
def au8 (wi:TI) (g:TG) (tb:TS):TS:=fun D σ H=>wi σ H fun J H1=>∃ W:Nat→Nat→St→Hp→Prop,(∃ m,W 0 m σ H1)∧∀ i m σ H,W i m σ H →
 (J.stop i H∧D.nx σ H)∨(J.go i H∧∃ N:St→Hp→Prop,(∀ σ' H',N σ' H'→∃ m',m'<m∧W (i+1) m' σ' H')∧∀ x H',J.V2 i H x H'→g x σ H' fun σ2 H2=>tb { D with nx:=N,ct:=N,bk:=D.nx } σ2 H2)
def uv (fp:List Addr) (h:Heap):List (Addr × Obj):=fp.filterMap fun b=>(h.get? b).map fun o=>(b,o)
theorem xC {fp:List Addr}{h:Heap}{b:Addr}{o:Obj} (hb:b∈fp) (e:h.get? b=some o):(b,o)∈uv fp h:=List.mem_filterMap.mpr ⟨b,hb,by rw [e];rfl⟩
theorem V4 {fp:List Addr}{h:Heap}{p:Addr × Obj} (hp:p∈uv fp h):p.1∈fp∧h.get? p.1=some p.2:=by
 obtain⟨b,hb,e⟩:=List.mem_filterMap.mp hp
 cases q:h.get? b with
 | none=>rw [q] at e;cases e
 | some o =>
   rw [q] at e
   have e':(b,o)=p:=Option.some.inj e
   subst e'
   exact⟨hb,q⟩
theorem Inv.pinned {pins:List (Addr × Obj)}{σ:St}{H:Hp}{s:Shared}{fp:List Addr} (I:Inv X pins σ H s) (hf:∀ b∈fp,qH X pins H b) (ho:∀ b∈fp,∃ o,s.heap.get? b=some o∧∀ v,o.data≠.cell v):Inv X (pins++uv fp s.heap) σ H s :=
 I.lE fun p hp=>(List.mem_append.mp hp).elim (fun z=>I.pin p (List.mem_append_right _ z)) fun z=>by
   obtain⟨hb,e⟩:=V4 z
   obtain⟨f0,f1,f2,_⟩:=hf p.1 hb
   obtain⟨o,e',d⟩:=ho p.1 hb
   rw [e] at e';cases e'
   exact⟨e,f0,f1,f2,d⟩
theorem Inv.Hf {pins pl:List (Addr × Obj)}{σ:St}{H:Hp}{s:Shared} (I:Inv X (pins++pl) σ H s):Inv X pins σ H s:=I.lE fun p hp=>I.pin p (List.mem_append_right _ (List.mem_append_left _ hp))
theorem ad8 {iter:Expr}{body:List Stmt}{wi:TI}{g:TG}{tb:TS}{pos:Pos} (hp:PassesOwn (model X.prog X.w) X.A X.env X.xe) (hc:X.calm=true) (hi:PI X tg iter wi) (hg:PG X tg g) (hb:qG X body tb)
   (hs:∀ x,foldedSetIterable iter X.env x=pure x:=by intro _;rfl):PS X (.For tg iter body [] pos) (au8 wi g tb):=by
 intro pins s σ H D I h
 refine wpAny_For (fM (hi pins s σ H _ I h) fun v s1 h1=>fM h1 fun itv s2 h2=>?_) hs
 obtain⟨it,fp,tn,J,H2,e,I2,T,st2,f2,W,⟨m0,w0⟩,turn⟩:=h2
 subst e
 have stat:∀ {H':Hp},(∀ b∈fp,H' b=none)→∀ b∈fp,qH X pins H' b:=fun hn b hb=>⟨hn b hb,(f2 b hb).2⟩
 refine codeAny_forLoop_any (fun n s'=>∃ i σ' H',Inv X pins σ' H' s'∧tn i s'.heap∧(∀ b∈fp,H' b=none)∧W i n σ' H') ?_ m0 ⟨0,σ,H2,I2,st2,fun b hb=>(f2 b hb).1,w0⟩
 rintro n s3 ⟨i,σ3,H3,I3,st3,fr3,w3⟩
 rcases turn i n σ3 H3 w3 with ⟨stop,qn⟩ | ⟨go,N,hN,step⟩
 · refine wpAny_passesOwn hp (fM (T.done X rfl rfl rfl hc i pins s3 σ3 H3 X.xe I3 (stat fr3) st3 stop) fun r s4 zq=>?_)
   obtain⟨hr,I4⟩:=zq
   subst hr
   exact wpAny_execs_nil ⟨σ3,H3,I4,qn⟩
 · refine wpAny_passesOwn hp (fM (T.item X rfl rfl rfl hc i pins s3 σ3 H3 X.xe I3 (stat fr3) st3 go) fun r s4 zq=>?_)
   obtain⟨u,hr,h4⟩:=zq
   subst hr
   refine wpAny_passesOwn hp (fM h4 fun _ s5 zq=>?_)
   obtain⟨x,H5,I5,r5,y5,R4,fr5⟩:=zq
   have I5':=I5.pinned (stat fr5) (T.obj _ _ R4)
   refine wpAny_passesOwn hp (fM (hg _ s5 σ3 H5 x u _ I5' r5 (step x H5 y5)) fun _ s6 zq=>?_)
   obtain⟨σ6,H6,I6,q6⟩:=zq
   refine wpAny_passesOwn hp (fM (hb _ s6 σ6 H6 _ I6 q6) fun f s7 q7=>?_)
   have again:∀ {σ7:St}{H7:Hp},Inv X (pins++uv fp s5.heap) σ7 H7 s7→N σ7 H7→∃ m,m<n∧∃ i σ' H',Inv X pins σ' H' s7∧tn i s7.heap∧(∀ b∈fp,H' b=none)∧W i m σ' H':=fun {σ7 H7} I7 n7=>by
     obtain⟨m',hm,w7⟩:=hN σ7 H7 n7
     refine⟨m',hm,i+1,σ7,H7,I7.Hf,T.keep _ _ _ R4 fun b hb o e=>(I7.pin (b,o) (List.mem_append_right _ (List.mem_append_right _ (xC hb e)))).1,fun b hb=>?_,w7⟩
     obtain⟨o,e,d⟩:=T.obj _ _ R4 b hb
     exact (I7.pin (b,o) (List.mem_append_right _ (List.mem_append_right _ (xC hb e)))).2.1
   cases f with
   | next=>obtain⟨σ7,H7,I7,n7⟩:=q7;exact again I7 n7
   | cont=>obtain⟨σ7,H7,I7,n7⟩:=q7;exact again I7 n7
   | brk=>obtain⟨σ7,H7,I7,q7⟩:=q7;exact⟨σ7,H7,I7.Hf,q7⟩
   | ret v=>obtain⟨x7,σ7,H7,I7,r7,q7⟩:=q7;exact⟨x7,σ7,H7,I7.Hf,r7,q7⟩
end
theorem XJ {K:PySem.W.Frag}{a:Addr}{xs:List V}{g:TG}{tb:TS}{D:Ends}{σ:St}{H:Hp} (Pv:Nat→St→Hp→Prop) (h0:Pv 0 σ H) (hl:∀ i σ H,i≤xs.length→Pv i σ H→cB K H a xs)
   (hs:∀ i x σ H,xs[i]? = some x→Pv i σ H→g x σ H fun σ2 H2=>tb { D with nx:=Pv (i+1),ct:=Pv (i+1),bk:=D.nx } σ2 H2) (hd:∀ σ H,Pv xs.length σ H→D.nx σ H) :
   ∃ W:Nat→Nat→St→Hp→Prop,(∃ m,W 0 m σ H)∧∀ i m σ H,W i m σ H →
     ((Itl K a).stop i H∧D.nx σ H)∨((Itl K a).go i H∧∃ N:St→Hp→Prop,(∀ σ' H',N σ' H'→∃ m',m'<m∧W (i+1) m' σ' H')∧∀ x H',(Itl K a).V2 i H x H'→g x σ H' fun σ2 H2=>tb { D with nx:=N,ct:=N,bk:=D.nx } σ2 H2):=by
 refine⟨fun i m σ H=>m=xs.length - i∧i≤xs.length∧Pv i σ H,⟨xs.length,by simp,Nat.zero_le _,h0⟩,?_⟩
 rintro i m σ H ⟨rfl,hi,p⟩
 have q:=hl i σ H hi p
 by_cases hlt:i<xs.length
 · refine .inr ⟨⟨xs,xs[i],q,by simp [hlt]⟩,Pv (i+1),fun σ' H' p'=>⟨xs.length - (i+1),by omega,rfl,hlt,p'⟩,fun x H' y=>?_⟩
   obtain⟨e,y⟩:=y
   subst e
   exact hs i x σ _ (y xs q) p
 · have e:i=xs.length:=by omega
   subst e
   exact .inl ⟨⟨xs,q,Nat.le_refl _⟩,hd σ H p⟩
theorem V5 {lo:Int}{n:Nat}{g:TG}{tb:TS}{D:Ends}{σ:St}{H:Hp} (Pv:Nat→St→Hp→Prop) (h0:Pv 0 σ H)
   (hs:∀ i σ H,i<n→Pv i σ H→g (.int (lo+i)) σ H fun σ2 H2=>tb { D with nx:=Pv (i+1),ct:=Pv (i+1),bk:=D.nx } σ2 H2) (hd:∀ σ H,Pv n σ H→D.nx σ H) :
   ∃ W:Nat→Nat→St→Hp→Prop,(∃ m,W 0 m σ H)∧∀ i m σ H,W i m σ H →
     ((Itr lo n).stop i H∧D.nx σ H)∨((Itr lo n).go i H∧∃ N:St→Hp→Prop,(∀ σ' H',N σ' H'→∃ m',m'<m∧W (i+1) m' σ' H')∧∀ x H',(Itr lo n).V2 i H x H'→g x σ H' fun σ2 H2=>tb { D with nx:=N,ct:=N,bk:=D.nx } σ2 H2):=by
 refine⟨fun i m σ H=>m=n - i∧i≤n∧Pv i σ H,⟨n,by simp,Nat.zero_le _,h0⟩,?_⟩
 rintro i m σ H ⟨rfl,hi,p⟩
 by_cases hlt:i<n
 · refine .inr ⟨hlt,Pv (i+1),fun σ' H' p'=>⟨n - (i+1),by omega,rfl,hlt,p'⟩,fun x H' y=>?_⟩
   obtain⟨e,y⟩:=y
   subst e y
   exact hs i σ _ hlt p
 · have e:i=n:=by omega
   subst e
   exact .inl ⟨Nat.le_refl _,hd σ H p⟩
end L2
namespace L2
open PySem PySem.Spec PyProof.Rows
abbrev R2:=V→V→Hp→VK→Prop
def jZ (X:Cx) (f:Value→Value→Sem Value) (r:R2):Prop :=
 ∀ (pins:List (Addr × Obj)) (s:Shared) (σ:St) (H:Hp) (x y:V) (v u:Value) (Q:VK),Inv X pins σ H s→RelV x v→RelV y u→r x y H Q →
   wpAny (model X.prog X.w) X.A (f v u) (EP X pins σ Q) X.xe s
def Dh (X:Cx) (f:Value→Sem Value) (r:V→Hp→VK→Prop):Prop :=
 ∀ (pins:List (Addr × Obj)) (s:Shared) (σ:St) (H:Hp) (x:V) (v:Value) (Q:VK),Inv X pins σ H s→RelV x v→r x H Q →
   wpAny (model X.prog X.w) X.A (f v) (EP X pins σ Q) X.xe s
def d8 (X:Cx) (f:Value) (r:List V→Hp→VK→Prop):Prop :=
 ∀ (pins:List (Addr × Obj)) (s:Shared) (σ:St) (H:Hp) (xs:List V) (us:List Value) (Q:VK),Inv X pins σ H s→Vals xs us→r xs H Q →
   wpAny (model X.prog X.w) X.A (call f us) (EP X pins σ Q) X.xe s
def nM (X:Cx) (r:V→Hp→(Bool→Hp→Prop)→Prop):Prop :=
 ∀ (pins:List (Addr × Obj)) (s:Shared) (σ:St) (H:Hp) (x:V) (v:Value) (Q:Bool→Hp→Prop),Inv X pins σ H s→RelV x v→r x H Q →
   wpAny (model X.prog X.w) X.A (truthy v) (TP X pins σ Q) X.xe s
def tOp (r:R2) (ta tb:TE):TE:=fun σ H Q=>ta σ H fun x H1=>tb σ H1 fun y H2=>r x y H2 Q
def tUn (r:V→Hp→VK→Prop) (ta:TE):TE:=fun σ H Q=>ta σ H fun x H1=>r x H1 Q
def rI (C:Int→Int→Prop) (g:Int→Int→V):R2:=fun x y H Q=>∃ i j,x=.int i∧y=.int j∧C i j∧Q (g i j) H
def rI0 (g:Int→Int→V):R2:=fun x y H Q=>∃ i j,x=.int i∧y=.int j∧Q (g i j) H
def rU (g:Int→V):V→Hp→VK→Prop:=fun x H Q=>∃ i,x=.int i∧Q (g i) H
section
variable {X:Cx}{a b c:Expr}{ta tb tc:TE}{pos:Pos}
theorem aea (ha:PE X a ta) (hb:PE X b tb) {pins:List (Addr × Obj)}{s:Shared}{σ:St}{H:Hp}{R:V→V→Hp→Prop} (I:Inv X pins σ H s)
   (h:ta σ H fun x H1=>tb σ H1 fun y H2=>R x y H2) {Q:Value→Shared→Prop}{f:Value→Value→Sem Value}
   (hf:∀ v u s2 x y H2,Inv X pins σ H2 s2→RelV x v→RelV y u→R x y H2→wpAny (model X.prog X.w) X.A (f v u) Q X.xe s2) :
   wpAny (model X.prog X.w) X.A (eval a X.env) (fun v s₁=>wpAny (model X.prog X.w) X.A (eval b X.env) (fun u s₂=>wpAny (model X.prog X.w) X.A (f v u) Q X.xe s₂) X.xe s₁) X.xe s:=by
 refine fM (ha pins s σ H _ I h) fun v s1 zq=>?_
 obtain⟨x,H1,I1,r1,q1⟩:=zq
 refine fM (hb pins s1 σ H1 _ I1 q1) fun u s2 zq=>?_
 obtain⟨y,H2,I2,r2,q2⟩:=zq
 exact hf v u s2 x y H2 I2 r1 r2 q2
theorem zP {op:Operator}{r:R2} (ho:jZ X (binaryOp op) r) (ha:PE X a ta) (hb:PE X b tb):PE X (.BinOp a op b pos) (tOp r ta tb):=by
 intro pins s σ H Q I h
 exact wpAny_BinOp (aea ha hb I h fun v u s2 x y H2 I2 rx ry q=>ho pins s2 σ H2 x y v u Q I2 rx ry q)
theorem ac1 {op:UnaryOp}{r:V→Hp→VK→Prop} (ho:Dh X (unaryOp op) r) (ha:PE X a ta):PE X (.UnaryOp op a pos) (tUn r ta):=by
 intro pins s σ H Q I h
 exact UnaryOp_ (fM (ha pins s σ H _ I h) fun v s1 ⟨x,H1,I1,r1,q1⟩=>ho pins s1 σ H1 x v Q I1 r1 q1)
theorem opI {f:Value→Value→Sem Value}{C:Int→Int→Prop}{g:Int→Int→Int}
   (rule:∀ (i j:Int) (t u:Tok) (s:Shared) (Q:Value→Shared→Prop) (E:Value→Shared→Prop),C i j→Q (.int (g i j) s.toks) { s with toks:=s.toks+1 }→wpAny (model X.prog X.w) X.A (f (.int i t) (.int j u)) Q E s) :
   jZ X f (rI C fun i j=>.int (g i j)):=by
 intro pins s σ H x y v u Q I rx ry h
 obtain⟨i,j,rfl,rfl,hc,q⟩:=h
 obtain⟨t,rfl⟩:=rx
 obtain⟨t',rfl⟩:=ry
 exact rule i j t t' s _ _ hc ⟨.int (g i j),H,I.tok _,⟨_,rfl⟩,q⟩
theorem aif {f:Value→Value→Sem Value}{g:Int→Int→Int}
   (rule:∀ (i j:Int) (t u:Tok) (s:Shared) (Q:Value→Shared→Prop) (E:Value→Shared→Prop),Q (.int (g i j) s.toks) { s with toks:=s.toks+1 }→wpAny (model X.prog X.w) X.A (f (.int i t) (.int j u)) Q E s) :
   jZ X f (rI0 fun i j=>.int (g i j)):=by
 intro pins s σ H x y v u Q I rx ry h
 obtain⟨i,j,rfl,rfl,q⟩:=h
 obtain⟨t,rfl⟩:=rx
 obtain⟨t',rfl⟩:=ry
 exact rule i j t t' s _ _ ⟨.int (g i j),H,I.tok _,⟨_,rfl⟩,q⟩
theorem aih {f:Value→Value→Sem Value}{g:Int→Int→Bool}
   (rule:∀ (i j:Int) (t u:Tok) (s:Shared) (Q:Value→Shared→Prop) (E:Value→Shared→Prop),Q (.bool (g i j)) s→wpAny (model X.prog X.w) X.A (f (.int i t) (.int j u)) Q E s) :
   jZ X f (rI0 fun i j=>.bl (g i j)):=by
 intro pins s σ H x y v u Q I rx ry h
 obtain⟨i,j,rfl,rfl,q⟩:=h
 obtain⟨t,rfl⟩:=rx
 obtain⟨t',rfl⟩:=ry
 exact rule i j t t' s _ _ ⟨.bl (g i j),H,I,rfl,q⟩
def ava (i j:Int):Prop:=0<j∧j<1073741824
def avb (i j:Int):Prop:=0≤j∧j≤1000000∧i.natAbs<2 ^ 64
def aii (i j:Int):Prop:=(-(2 ^ 64)<i∧i<2 ^ 64)∨(-(2 ^ 64)<j∧j<2 ^ 64)
theorem aii.ok {i j:Int} (h:aii i j):IntMulOk i j:=by
 rcases h with ⟨h1,h2⟩ | ⟨h1,h2⟩
 · exact .of_left (intBits_le_64 h1 h2)
 · exact .of_right (intBits_le_64 h1 h2)
theorem xO:jZ X (binaryOp .Add) (rI0 fun i j=>.int (i+j)):=aif fun _ _ _ _ _ _ _ q=>add_int q
theorem R5:jZ X (binaryOp .Sub) (rI0 fun i j=>.int (i - j)):=aif fun _ _ _ _ _ _ _ q=>sub_int q
theorem m5:jZ X (binaryOp .FloorDiv) (rI ava fun i j=>.int (i / j)):=opI fun i j _ _ _ _ _ hc q=>by
 have h1:(0:Int)<j:=hc.1
 have h2:j<1073741824:=hc.2
 exact floordiv_int (by omega) (by rw [Int.fdiv_eq_ediv_of_nonneg i (by omega)];exact q) (.inl (PyProof.noPylong_small (by omega)))
theorem yN:jZ X (binaryOp .Mod) (rI (fun _ j=>0<j) fun i j=>.int (i % j)):=opI fun i j _ _ _ _ _ hc q=>by
 have h1:(0:Int)<j:=hc
 exact mod_int' (by omega) (by rw [Int.fmod_eq_emod_of_nonneg i (by omega)];exact q)
theorem rF:jZ X (binaryOp .Pow) (rI avb fun i j=>.int (i ^ j.toNat)):=opI fun _ _ _ _ _ _ _ hc q=>pow_int_small hc.1 hc.2.1 hc.2.2 q
theorem unI {f:Value→Sem Value}{g:Int→Int}
   (rule:∀ (i:Int) (t:Tok) (s:Shared) (Q:Value→Shared→Prop) (E:Value→Shared→Prop),Q (.int (g i) s.toks) { s with toks:=s.toks+1 }→wpAny (model X.prog X.w) X.A (f (.int i t)) Q E s) :
   Dh X f (rU fun i=>.int (g i)):=by
 intro pins s σ H x v Q I rx h
 obtain⟨i,rfl,q⟩:=h
 obtain⟨t,rfl⟩:=rx
 exact rule i t s _ _ ⟨.int (g i),H,I.tok _,⟨_,rfl⟩,q⟩
theorem XM:Dh X (unaryOp .USub) (rU fun i=>.int (-i)):=unI fun _ _ _ _ _ q=>neg_int q
end
def avc:V→V→Bool
 | .non,.non=>true | .non,.int _=>true | .int _,.non=>true | .non,.bl _=>true | .bl _,.non=>true | .non,.str _=>true | .str _,.non=>true
 | .int _,.int _=>true | .bl _,.bl _=>true | .str _,.str _=>true | .Xn _,.Xn _=>true
 | .int _,.str _=>true | .str _,.int _=>true | .bl _,.str _=>true | .str _,.bl _=>true
 | _,_=>false
def rEq:R2:=fun x y H Q=>avc x y=true∧Q (.bl (decide (x=y))) H
theorem abD {i j:Int}:decide (V.int i=V.int j)=(i == j):=by
 rw [Bool.eq_iff_iff]
 simp
theorem aeb {i j:Bool}:decide (V.bl i=V.bl j)=(i == j):=by
 rw [Bool.eq_iff_iff]
 simp
theorem abE {i j:Str}:decide (V.str i=V.str j)=(i == j):=by
 rw [Bool.eq_iff_iff]
 simp
theorem abF {i j:Array UInt8}:decide (V.Xn i=V.Xn j)=(i.toList == j.toList):=by
 rw [Bool.eq_iff_iff]
 cases i
 cases j
 simp
section
variable {X:Cx}{a b c:Expr}{ta tb tc:TE}{pos:Pos}
theorem xI {pins:List (Addr × Obj)}{σ:St}{H:Hp}{s:Shared}{Q:VK}{k k':Bool} (I:Inv X pins σ H s) (q:Q (.bl k) H) (e:k=k'):EP X pins σ Q (.bool k') s:=by
 subst e
 exact⟨.bl k,H,I,rfl,q⟩
theorem xP:jZ X (compareOp .Eq) rEq:=by
 intro pins s σ H x y v u Q I rx ry h
 obtain⟨hs,q⟩:=h
 cases x with
 | non =>
   cases rx
   cases y with
   | non=>cases ry;exact PySem.EqNone.eq_none_none (xI I q (by simp))
   | bl j=>cases ry;exact PySem.EqNone.eq_none_bool (xI I q (by simp))
   | int j=>obtain⟨t',rfl⟩:=ry;exact PySem.EqNone.eq_none_int (xI I q (by simp))
   | str j=>obtain⟨t',rfl⟩:=ry;exact PySem.EqNone.eq_none_str (xI I q (by simp))
   | _=>exact absurd (show false=true from hs) Bool.false_ne_true
 | bl i =>
   cases rx
   cases y with
   | non=>cases ry;exact PySem.EqNone.eq_bool_none (xI I q (by simp))
   | bl j=>cases ry;exact eq_bool (xI I q aeb)
   | str j=>obtain⟨t',rfl⟩:=ry;exact PySem.EqMixed.eq_bool_str (xI I q (by simp))
   | _=>exact absurd (show false=true from hs) Bool.false_ne_true
 | int i =>
   obtain⟨t,rfl⟩:=rx
   cases y with
   | non=>cases ry;exact PySem.EqNone.eq_int_none (xI I q (by simp))
   | int j=>obtain⟨t',rfl⟩:=ry;exact eq_int (xI I q abD)
   | str j=>obtain⟨t',rfl⟩:=ry;exact PySem.EqMixed.eq_int_str (xI I q (by simp))
   | _=>exact absurd (show false=true from hs) Bool.false_ne_true
 | str i =>
   obtain⟨t,rfl⟩:=rx
   cases y with
   | non=>cases ry;exact PySem.EqNone.eq_str_none (xI I q (by simp))
   | bl j=>cases ry;exact PySem.EqMixed.eq_str_bool (xI I q (by simp))
   | int j=>obtain⟨t',rfl⟩:=ry;exact PySem.EqMixed.eq_str_int (xI I q (by simp))
   | str j=>obtain⟨t',rfl⟩:=ry;exact eq_str (xI I q abE)
   | _=>exact absurd (show false=true from hs) Bool.false_ne_true
 | Xn i =>
   obtain⟨t,rfl⟩:=rx
   cases y with
   | Xn j=>obtain⟨t',rfl⟩:=ry;exact PySem.W.eq_bytes (xI I q abF)
   | _=>exact absurd (show false=true from hs) Bool.false_ne_true
 | _=>cases y <;> exact absurd (show false=true from hs) Bool.false_ne_true
theorem XN:jZ X (compareOp .Lt) (rI0 fun i j=>.bl (decide (i<j))):=aih fun _ _ _ _ _ _ _ q=>lt_int q
theorem ac2:jZ X (compareOp .Gt) (rI0 fun i j=>.bl (decide (j<i))):=aih fun _ _ _ _ _ _ _ q=>gt_int q
theorem XQ:jZ X (compareOp .Is) (fun x y H Q=>y=.non∧Q (.bl (decide (x=.non))) H):=by
 intro pins s σ H x y v u Q I rx ry h
 obtain⟨rfl,q⟩:=h
 cases ry
 refine is_none_gen (xI I q ?_)
 cases x <;> first
   | (cases rx;rfl)
   | (obtain⟨t,rfl⟩:=rx;rfl)
theorem zf:jZ X (compareOp .IsNot) (fun x y H Q=>y=.non∧Q (.bl (!decide (x=.non))) H):=by
 intro pins s σ H x y v u Q I rx ry h
 obtain⟨rfl,q⟩:=h
 cases ry
 refine isnot_none_gen (xI I q ?_)
 cases x <;> first
   | (cases rx;rfl)
   | (obtain⟨t,rfl⟩:=rx;rfl)
theorem yD (b:Expr) {op:CmpOp} (h:op≠.In:=by decide) (h2:op≠.NotIn:=by decide):behindInMarks op b=false:=by
 have e1:(op == CmpOp.In)=false:=by cases op <;> first | rfl | exact absurd rfl h
 have e2:(op == CmpOp.NotIn)=false:=by cases op <;> first | rfl | exact absurd rfl h2
 cases b <;> simp [behindInMarks,e1,e2]
theorem xM {op:CmpOp}{r:R2} (ho:jZ X (compareOp op) r) (ha:PE X a ta) (hb:PE X b tb) (hm:behindInMarks op b=false):PE X (.Compare a [op] [b] pos) (tOp r ta tb):=by
 intro pins s σ H Q I h
 exact wpAny_Compare1 (aea ha hb I h fun v u s2 x y H2 I2 rx ry q=>ho pins s2 σ H2 x y v u Q I2 rx ry q) hm
def aij (t:TE):TT:=fun σ H Q=>t σ H fun x H'=>∃ k,x=.bl k∧Q k H'
theorem zV {op:CmpOp}{r:R2} (ho:jZ X (compareOp op) r) (ha:PE X a ta) (hb:PE X b tb) (hm:behindInMarks op b=false):PT X (.Compare a [op] [b] pos) (aij (tOp r ta tb)):=by
 intro pins s σ H Q I h
 refine wpAny_isTrue_Compare1 (fM (ha pins s σ H _ I h) fun v s1 ⟨x,H1,I1,r1,q1⟩=>fM (hb pins s1 σ H1 _ I1 q1) fun u s2 ⟨y,H2,I2,r2,q2⟩ =>
   fM (ho pins s2 σ H2 x y v u _ I2 r1 r2 q2) fun c s3 ⟨z,H3,I3,r3,k,e,q3⟩=>?_) hm
 subst e
 cases r3
 exact wpAny_truthy_bool ⟨H3,I3,q3⟩
theorem Hg:(sizeLine:Nat)<2 ^ 63:=by rw [sizeLine_eq];decide
theorem yS:jZ X (binaryOp .Add) (fun x y H Q=>∃ i j,x=.str i∧y=.str j∧i.length+j.length≤sizeLine∧Q (.str (i++j)) H):=by
 intro pins s σ H x y v u Q I rx ry h
 obtain⟨i,j,rfl,rfl,hz,q⟩:=h
 obtain⟨t,rfl⟩:=rx
 obtain⟨t',rfl⟩:=ry
 exact add_str (fun t' tk=>⟨.str (i++j),H,I.tok _,⟨_,rfl⟩,q⟩) hz
theorem vals1 {x:V}{us:List Value} (r:Vals [x] us):∃ u,us=[u]∧RelV x u:=by
 cases r with
 | cons r1 r2=>cases r2;exact⟨_,rfl,r1⟩
theorem vals2 {x y:V}{us:List Value} (r:Vals [x,y] us):∃ u w',us=[u,w']∧RelV x u∧RelV y w':=by
 cases r with
 | cons r1 r2 =>
   cases r2 with
   | cons r3 r4=>cases r4;exact⟨_,_,rfl,r1,r3⟩
theorem XS:d8 X (.builtin "abs") (fun xs H Q=>∃ i,xs=[.int i]∧Q (.int (if i<0 then -i else i)) H):=by
 intro pins s σ H xs us Q I r h
 obtain⟨i,rfl,q⟩:=h
 obtain⟨u,rfl,t,rfl⟩:=vals1 r
 exact call_abs_int fun u tk=>⟨.int (if i<0 then -i else i),H,I.tok _,⟨_,rfl⟩,q⟩
theorem nF:d8 X (.type "int") (fun xs H Q=>(∃ i,xs=[.int i]∧Q (.int i) H)∨∃ k,xs=[.bl k]∧Q (.int (if k then 1 else 0)) H):=by
 intro pins s σ H xs us Q I r h
 rcases h with ⟨i,rfl,q⟩ | ⟨k,rfl,q⟩
 · obtain⟨u,rfl,t,rfl⟩:=vals1 r
   exact call_int_int ⟨.int i,H,I,⟨_,rfl⟩,q⟩
 · obtain⟨u,rfl,r1⟩:=vals1 r
   cases r1
   exact call_int_bool ⟨.int (if k then 1 else 0),H,I.tok _,⟨_,rfl⟩,q⟩
theorem rG:d8 X (.type "str") (fun xs H Q=>∃ i,xs=[.int i]∧i.natAbs.log2<1920∧Q (.str (toString i)) H):=by
 intro pins s σ H xs us Q I r h
 obtain⟨i,rfl,hz,q⟩:=h
 obtain⟨u,rfl,t,rfl⟩:=vals1 r
 exact PySem.P.str_of_int hz ⟨.str _,H,I.tok _,⟨_,rfl⟩,q⟩
end
end L2
namespace L2
open PySem PySem.Spec PyProof.Rows
structure R6 (h:Heap) (x dx C:Addr) (mA:Str→Option Value):Prop where
 obj:h.get? x=some (PySem.W.instObj C dx)
 ns:h.Ns1 dx mA
 ne:dx≠x
theorem Mg {h:Heap}{dx:Addr}{mA:Str→Option Value} (n:h.Ns1 dx mA):∃ od,h.get? dx=some od∧∀ name,PySem.W.lookIn name od=some (mA name):=by
 obtain⟨o,es,ep,ho,hd,hk,_,hm⟩:=n
 refine⟨o,ho,fun name=>?_⟩
 have e:=hm name
 unfold nsFind findBy at e
 rw [← Array.find?_toList] at e
 unfold PySem.W.lookIn
 rw [hd]
 dsimp only
 split
 · rename_i y q
   rw [q] at e
   exact congrArg some e
 · rename_i q
   rw [q] at e
   have a:es.toList.any (·.refKey)=false:=by
     rw [List.any_eq_false]
     intro y hy
     obtain⟨z,t,hkey⟩:=hk y (Array.mem_toList_iff.mp hy)
     simp [DictEntry.refKey,hkey]
   have a':¬ es.toList.any (·.refKey)=true:=by rw [a];exact Bool.false_ne_true
   rw [if_neg a']
   exact congrArg some e
theorem R6.look {h:Heap}{x dx C:Addr}{mA:Str→Option Value} (I:R6 h x dx C mA):∃ od,PySem.W.InstAt h x (PySem.W.instObj C dx) C (some od)∧∀ name,PySem.W.lookIn name od=some (mA name) :=
 let ⟨od,ho,hl⟩:=Mg I.ns
 ⟨od,⟨I.obj,rfl,rfl,ho⟩,hl⟩
section
variable {prog:Program}{w:World}{A:Around}{E:Value→Shared→Prop}{s:Shared}{K:PySem.W.Frag}{x dx C f:Addr}{mA:Str→Option Value}{name:Str}{v:Value}
theorem get_map {expr:Bool}{Q:Value→Shared→Prop} (X:K.In s.heap) (I:R6 s.heap x dx C mA) (hg:PySem.W.plainGet K C name=true) (hh:PySem.W.hasDictIn K C=true)
   (ha:PySem.W.findIn K (.ref C) name=some none) (hv:mA name=some v) (hv':PySem.W.handedIn v=true) (h:Q v { s with toks:=s.toks+1 }) :
   wpAny (model prog w) A (getAttr (.ref x) name expr) Q E s:=by
 obtain⟨od,J,hl⟩:=I.look
 exact PySem.W.get_value X J (PySem.W.plainGet_of hg).1 (PySem.W.findObj_own hh ha rfl (by rw [hl,hv])) hv' h
theorem XX {pl:Sem Bool}{Q:Value × List Value→Shared→Prop} (X:K.In s.heap) (I:R6 s.heap x dx C mA) (hg:PySem.W.plainGet K C name=true)
   (hf:PySem.W.findIn K (.ref C) name=some (some (.ref f))) (ht:PySem.W.isFn K (.ref f)=true) (hv:mA name=none) (h:Q (.ref f,[.ref x]) s) :
   wpAny (model prog w) A (getMethod (.ref x) name pl) Q E s:=by
 obtain⟨od,J,hl⟩:=I.look
 exact PySem.W.method_fn X J (PySem.W.plainGet_of hg).1 (PySem.W.plainGet_of hg).2 hf (beq_iff_eq.mp ht) (by show (PySem.W.lookIn name od).map (·.isSome)=some false;rw [hl,hv];rfl) h
theorem abG {ns:List Str}{Q:Unit→Shared→Prop} (X:K.In s.heap) (I:R6 s.heap x dx C mA)
   (hs:PySem.W.findIn K (.ref C) "__setattr__" = some (some (.builtin "object.__setattr__"))) (hp:PySem.W.plainOver K C=true) (ht:PySem.W.takerIn K C name=some none) (hh:PySem.W.hasDictIn K C=true)
   (hw:PySem.Within mA ns) (hsz:ns.length≤sizeLine)
   (h:∀ h',R6 h' x dx C (fun y=>if y=name then some v else mA y)→Heap.SameBut dx s.heap h'→Q () { s with heap:=h',toks:=s.toks+2 }) :
   wpAny (model prog w) A (setAttr (.ref x) name v) Q E s:=by
 obtain⟨od,J,hl⟩:=I.look
 refine PySem.W.set_plain X J hs (PySem.W.osa_open (s:={ s with toks:=s.toks+1 }) (r:=none) X J hp ht fun b=>?_)
 obtain⟨cd,hc,hd'⟩:=PySem.W.any_some hh
 have hx:s.heap.get? x=some ⟨.ref C,some dx,.plain,#[]⟩:=I.obj
 refine wpAny_bind (wpAny_pure (wpAny_bind (wpAny_bind (wpAny_loadPart hx (wpAny_bind (PySem.W.Looks.here (s:={ s with toks:=s.toks+1 }) (PySem.W.looks_clsIn X hc) ?_))))))
 rw [hd']
 refine wpAny_pure (a:=some dx) (wpAny_bind (wpAny_pure (wpAny_bind ?_)))
 refine wpAny_nsSet1 (s:={ s with toks:=s.toks+1 }) I.ns fun h' hn2 hs2=>?_
 obtain⟨oD,esD,epD,hoD,hdD,hcD⟩:=hn2.count (PySem.Within.cons name v hw)
 refine wpAny_bind (wpAny_lookBehind hoD (by rw [hdD];exact pastItsLine_dict (Nat.le_trans hcD (by rw [List.length_cons];omega))) ?_)
 exact wpAny_pure (h _ ⟨(hs2.2 _ (Ne.symm I.ne)).trans I.obj,hn2,I.ne⟩ hs2)
theorem X3 {R:Result→Shared→Prop}{vs:List Value}{kw:List (Str × Value)} (X:K.In s.heap) (hm:PySem.W.makesIn K C=true)
   (hi:PySem.W.findIn K (.ref C) "__init__" = some (some (.ref f))) (hf:PySem.W.typeIn K (.ref f)=some (.type "function"))
   (h:codeAny (model prog w) (A.under (.builtin "type.__call__" ⟨.ref C::vs,kw⟩)) (.call (.ref f) ⟨.ref (s.heap.objs.size+1)::vs,kw⟩) (PySem.W.InitBack (s.heap.objs.size+1) R)
     { s with heap:=(s.heap.push PySem.W.emptyDict).push (PySem.W.instObj C s.heap.objs.size) }) :
   codeAny (model prog w) A (.call (.ref C) ⟨vs,kw⟩) R s:=by
 obtain⟨hh,g,d,t,os⟩:=s
 exact PySem.W.make_core (PySem.W.makes_of X hm) (PySem.W.looks_findIn X hi) (fun self=>PySem.W.bind_fn X self hf) (.inl rfl) h
end
def pF (f:Str) (v:V):List (Str × V)→List (Str × V)
 | []=>[(f,v)]
 | (g,x)::r=>if g=f then (g,v)::r else (g,x)::pF f v r
theorem Di (f g:Str) (v:V):∀ fs:List (Str × V),(pF f v fs).lookup g=if g=f then some v else fs.lookup g
 | []=>by
   show List.lookup g [(f,v)]=_
   by_cases h:g=f
   · have hb:(g == f)=true:=beq_iff_eq.mpr h
     simp only [List.lookup,hb,if_pos h]
   · have hb:(g == f)=false:=beq_eq_false_iff_ne.mpr h
     simp only [List.lookup,hb,if_neg h]
 | (k,x)::r=>by
   have ih:=Di f g v r
   rw [show pF f v ((k,x)::r)=(if k=f then (k,v)::r else (k,x)::pF f v r) from rfl]
   by_cases hk:k=f
   · rw [if_pos hk]
     by_cases h:g=k
     · have hb:(g == k)=true:=beq_iff_eq.mpr h
       simp only [List.lookup,hb,if_pos (h.trans hk)]
     · have hb:(g == k)=false:=beq_eq_false_iff_ne.mpr h
       simp only [List.lookup,hb,if_neg (fun e:g=f=>h (e.trans hk.symm))]
   · rw [if_neg hk]
     by_cases h:g=k
     · have hb:(g == k)=true:=beq_iff_eq.mpr h
       simp only [List.lookup,hb,if_neg (fun e:g=f=>hk (h.symm.trans e))]
     · have hb:(g == k)=false:=beq_eq_false_iff_ne.mpr h
       simp only [List.lookup,hb]
       exact ih
theorem Bo (f:Str) (v:V):∀ fs:List (Str × V),f∈(pF f v fs).map (·.1)∧∀ g,g∈fs.map (·.1)→g∈(pF f v fs).map (·.1)
 | []=>⟨by simp [pF],fun g h=>by simp at h⟩
 | (k,x)::r=>by
   obtain⟨i1,i2⟩:=Bo f v r
   rw [show pF f v ((k,x)::r)=(if k=f then (k,v)::r else (k,x)::pF f v r) from rfl]
   by_cases hk:k=f
   · rw [if_pos hk]
     subst hk
     exact⟨by simp,fun g h=>by simpa using h⟩
   · rw [if_neg hk]
     refine⟨?_,fun g h=>?_⟩
     · rw [List.map_cons]
       exact List.mem_cons_of_mem _ i1
     · rw [List.map_cons] at h ⊢
       rcases List.mem_cons.mp h with e | e
       · exact List.mem_cons.mpr (.inl e)
       · exact List.mem_cons_of_mem _ (i2 g e)
theorem Dj (f:Str) (v:V):∀ fs:List (Str × V),(pF f v fs).length≤fs.length+1
 | []=>by simp [pF]
 | (k,x)::r=>by
   have ih:=Dj f v r
   rw [show pF f v ((k,x)::r)=(if k=f then (k,v)::r else (k,x)::pF f v r) from rfl]
   by_cases hk:k=f
   · rw [if_pos hk,List.length_cons,List.length_cons];omega
   · rw [if_neg hk,List.length_cons,List.length_cons];omega
theorem qF.some_of {v:V}{o:Option Value} (r:qF (some v) o):∃ u,o=some u∧RelV v u:=by
 cases o with
 | none=>exact (show False from r).elim
 | some u=>exact⟨u,rfl,r⟩
theorem qF.none_of {o:Option Value} (r:qF none o):o=none:=by
 cases o with
 | none=>rfl
 | some u=>exact (show False from r).elim
theorem Mh {v:V}{u:Value} (r:RelV v u):PySem.W.handedIn u=true:=by
 cases v with
 | non=>cases (show u=Value.none from r);rfl
 | bl b=>cases (show u=Value.bool b from r);rfl
 | int i=>obtain⟨t,e⟩:=(show ∃ t,u=Value.int i t from r);cases e;rfl
 | str x=>obtain⟨t,e⟩:=(show ∃ t,u=Value.str x t from r);cases e;rfl
 | Xn b=>obtain⟨t,e⟩:=(show ∃ t,u=Value.bytes b t from r);cases e;rfl
 | flt b=>obtain⟨t,e⟩:=(show ∃ t,u=Value.float b t from r);cases e;rfl
 | ref a=>cases (show u=Value.ref a from r);rfl
 | ty n=>cases (show u=Value.type n from r);rfl
section
variable {P:Program}{w:World}{H H':Hp}{h h':Heap}{a C dx:Addr}{fs fs':List (Str × V)}
theorem Gw (hok:uh P w H h) (e:H a=some (.ins C dx fs)):∃ mA,R6 h a dx C mA∧(∀ f,qF (fs.lookup f) (mA f))∧PySem.Within mA (fs.map (·.1))∧fs.length≤1000∧H dx=some (.own a):=by
 obtain⟨d,z,ne,ob,mA,n,r,q⟩:=(show bw P w H h a (.ins C dx fs) from hok a _ e)
 exact⟨mA,⟨ob,n,ne⟩,r,q,z,d⟩
end
structure zg (K:PySem.W.Frag) (C:Addr):Prop where
 pg:PySem.W.plainGet K C Str.empty=true
 hd:PySem.W.hasDictIn K C=true
 po:PySem.W.plainOver K C=true
 sa:PySem.W.findIn K (.ref C) "__setattr__" = some (some (.builtin "object.__setattr__"))
theorem zg.get {K:PySem.W.Frag}{C:Addr} (c:zg K C) (f:Str):PySem.W.plainGet K C f=true:=c.pg
def aO (K:PySem.W.Frag) (C:Addr) (f:Str):Prop:=PySem.W.findIn K (.ref C) f=some none
theorem aO.taker {K:PySem.W.Frag}{C:Addr}{f:Str} (n:aO K C f):PySem.W.takerIn K C f=some none:=by
 unfold PySem.W.takerIn
 rw [show PySem.W.findIn K (.ref C) f=some none from n]
 rfl
structure Con (K:PySem.W.Frag) (C:Addr) (f:Str) (v:V) (u:Value):Prop where
 at_:PySem.W.findIn K (.ref C) f=some (some u)
 rel:RelV v u
 get:PySem.W.specialIn K u "__get__" = some none
 cp:PySem.W.copiedNames.contains f=false
structure Meth (K:PySem.W.Frag) (C:Addr) (m:Str) (f:Addr):Prop where
 at_:PySem.W.findIn K (.ref C) m=some (some (.ref f))
 fn:PySem.W.isFn K (.ref f)=true
 kp:PySem.W.keepIn K (.ref f)=true
section
variable {X:Cx}{pins:List (Addr × Obj)}{σ:St}{H:Hp}{s:Shared}{a C dx:Addr}{fs:List (Str × V)}{f:Str}{v:V}{A:Around}{E:Value→Shared→Prop}
theorem R7 {b:Bool}{Q:Value→Shared→Prop} (I:Inv X pins σ H s) (e:H a=some (.ins C dx fs)) (c:zg X.K C) (n:aO X.K C f) (l:fs.lookup f=some v)
   (h:∀ u s',Inv X pins σ H s'→RelV v u→Q u s'):wpAny (model X.prog X.w) A (getAttr (.ref a) f b) Q E s:=by
 obtain⟨mA,O,r,_,_,_⟩:=Gw I.hok e
 obtain⟨u,hu,ru⟩:=qF.some_of (v:=v) (o:=mA f) (by rw [← l];exact r f)
 exact get_map I.ug O (c.get f) c.hd n hu (Mh ru) (h u _ (I.tok _) ru)
theorem Hh {m:Str}{g:Addr}{pl:Sem Bool}{Q:Value × List Value→Shared→Prop} (I:Inv X pins σ H s) (e:H a=some (.ins C dx fs)) (c:zg X.K C) (k:Meth X.K C m g) (l:fs.lookup m=none)
   (h:Q (.ref g,[.ref a]) s):wpAny (model X.prog X.w) A (getMethod (.ref a) m pl) Q E s:=by
 obtain⟨mA,O,r,_,_,_⟩:=Gw I.hok e
 have hn:mA m=none:=qF.none_of (by rw [← l];exact r m)
 exact XX I.ug O (c.get m) k.at_ k.fn hn h
theorem R8 {y:V}{u:Value}{Q:Unit→Shared→Prop} (I:Inv X pins σ H s) (e:H a=some (.ins C dx fs)) (c:zg X.K C) (n:aO X.K C f) (hl:fs.length<1000) (ry:RelV y u)
   (h:∀ s',Inv X pins σ (upd H a (.ins C dx (pF f y fs))) s'→Q () s'):wpAny (model X.prog X.w) A (setAttr (.ref a) f u) Q E s:=by
 obtain⟨mA,O,r,wi,_,ho⟩:=Gw I.hok e
 have hz:(fs.map (·.1)).length≤sizeLine:=by rw [List.length_map,sizeLine_eq];omega
 refine abG I.ug O c.sa c.po n.taker c.hd wi hz fun h' O' sb=>h _ ?_
 have hd:∃ o,h'.get? dx=some o:=let ⟨o,_,_,e',_⟩:=O'.ns; ⟨o,e'⟩
 refine I.write (x:=a) (e:=dx) (by rw [e];exact True.intro) (.inr ho) (fun b q hb z=>(sb.2 b hb).trans z) hd ?_
 refine⟨by rw [zL O.ne];exact ho,?_,O.ne,O'.obj,_,O'.ns,fun g=>?_,fun g hg=>?_⟩
 · have:=Dj f y fs;omega
 · show qF ((pF f y fs).lookup g) (if g=f then some u else mA g)
   rw [Di]
   by_cases q:g=f
   · rw [if_pos q,if_pos q];exact ry
   · rw [if_neg q,if_neg q];exact r g
 · by_cases q:g=f
   · rw [q];exact (Bo f y fs).1
   · refine (Bo f y fs).2 g (wi g fun z=>hg ?_)
     show (if g=f then some u else mA g)=none
     rw [if_neg q];exact z
theorem Inv.made (I:Inv X pins σ H s):Inv X pins σ (upd (upd H s.heap.objs.size (.own (s.heap.objs.size+1))) (s.heap.objs.size+1) (.ins C s.heap.objs.size []))
   { s with heap:=(s.heap.push PySem.W.emptyDict).push (PySem.W.instObj C s.heap.objs.size) }:=by
 have e1:(s.heap.push PySem.W.emptyDict).get? s.heap.objs.size=some PySem.W.emptyDict:=Heap.get?_push_size s.heap rfl
 have e2:((s.heap.push PySem.W.emptyDict).push (PySem.W.instObj C s.heap.objs.size)).get? (s.heap.objs.size+1)=some (PySem.W.instObj C s.heap.objs.size):=by
   have:=Heap.get?_push_size (s.heap.push PySem.W.emptyDict) (o:=PySem.W.instObj C s.heap.objs.size) rfl
   rwa [Heap.size_push] at this
 have e3:(s.heap.push PySem.W.emptyDict).Ns s.heap.objs.size (fun _=>none):=⟨PySem.W.emptyDict,#[],_,e1,rfl,(fun e he=>absurd he (by simp)),fun _=>rfl⟩
 have I1:=I.laid (a:=s.heap.objs.size) (o:=.own (s.heap.objs.size+1)) (h':=s.heap.push PySem.W.emptyDict) (t':=s.toks) (fun b u q=>Heap.get?_push_of_some _ q) (Nat.le_refl _) ⟨_,e1⟩
 refine I1.laid (a:=s.heap.objs.size+1) (o:=.ins C s.heap.objs.size []) (t':=s.toks) (fun b u q=>Heap.get?_push_of_some _ q) (Nat.le_of_eq (Heap.size_push _ _)) ?_
 have ne:s.heap.objs.size≠s.heap.objs.size+1:=Nat.ne_of_lt (Nat.lt_succ_self _)
 refine⟨by rw [zL ne,zB],Nat.zero_le _,ne,e2,fun _=>none,(Heap.Ns1.of_empty e3).at fun o q=>Heap.get?_push_of_some _ q,fun _=>True.intro,fun y hy=>absurd rfl hy⟩
theorem UG {prog:Program}{w:World}{env:Env}{e:Expr}{f:Str}{pos:Pos}{s:Shared}{Q:Value→Shared→Prop} (hb:attributeBase e f env (eval e env)=eval e env)
   (h:wpAny (model prog w) A (eval e env) (fun o s₁=>wpAny (model prog w) A (getAttr o f true) Q E s₁) E s):wpAny (model prog w) A (eval (.Attribute e f pos) env) Q E s :=
 Attribute_any_ h (by rw [arm_eval_Attribute,hb])
end
def avd (K:PySem.W.Frag) (ta:TE) (f:Str):TE:=fun σ H Q=>ta σ H fun x H1=>∃ a C dx fs v,x=.ref a∧H1 a=some (.ins C dx fs)∧zg K C∧aO K C f∧fs.lookup f=some v∧Q v H1
def ave (K:PySem.W.Frag) (ta tv:TE) (f:Str):TS:=fun D σ H=>tv σ H fun y H1=>ta σ H1 fun x H2=>∃ a C dx fs,x=.ref a∧H2 a=some (.ins C dx fs)∧zg K C∧aO K C f∧fs.length<1000 ∧
 D.nx σ (upd H2 a (.ins C dx (pF f y fs)))
section
variable {X:Cx}{o e value:Expr}{f:Str}{pos pos' tpos:Pos}{ta tv:TE}
theorem zN (he:PE X e ta) (hb:attributeBase e f X.env (eval e X.env)=eval e X.env):PE X (.Attribute e f pos) (avd X.K ta f):=by
 intro pins s σ H Q I h
 refine UG hb (fM (he pins s σ H _ I h) fun u s1 zq=>?_)
 obtain⟨x,H1,I1,rx,a,C,dx,fs,v,ex,ea,c,n,l,q⟩:=zq
 subst ex
 obtain rfl:u=Value.ref a:=rx
 exact R7 I1 ea c n l fun u' s2 I2 ru=>⟨v,H1,I2,ru,q⟩
theorem yQ (ha:PE X o ta) (hv:PE X value tv) (hs:swapsWith value (some (.Attribute o f pos')) pos.line X.env=pure false):PS X (.Assign [.Attribute o f pos'] value pos) (ave X.K ta tv f):=by
 intro pins s σ H D I h
 refine plainObj_wpAny_Assign_Attribute (fM (hv pins s σ H _ I h) fun u s1 ⟨y,H1,I1,ry,q⟩=>fM (ha pins s1 σ H1 _ I1 q) fun ov s2 ⟨x,H2,I2,rx,a,C,dx,fs,ex,ea,c,n,l,q2⟩=>?_) hs
 subst ex
 obtain rfl:ov=Value.ref a:=rx
 exact R8 I2 ea c n l ry fun s3 I3=>⟨σ,_,I3,q2⟩
end
section
variable {X:Cx}{pins:List (Addr × Obj)}{σ:St}{H:Hp}{s:Shared}{A:Around}{E:Value→Shared→Prop}{Q:Value→Shared→Prop}{c:Value}{b:Bool}
inductive aH (K:PySem.W.Frag) (H:Hp):V→Value→Prop where
 | non:aH K H .non (.type "NoneType")
 | bl (x:Bool):aH K H (.bl x) (.type "bool")
 | int (i:Int):aH K H (.int i) (.type "int")
 | str (x:Str):aH K H (.str x) (.type "str")
 | flt (x:UInt64):aH K H (.flt x) (.type "float")
 | lst {a:Addr}{xs:List V} (e:H a=some (.lst xs)):aH K H (.ref a) (.type "list")
 | jG {a:Addr}{o:Obj}{xs:List V} (e:H a=some (.jG o (.lst xs))):aH K H (.ref a) (.type "list")
 | tup {a:Addr}{xs:List V} (e:H a=some (.tup xs)):aH K H (.ref a) (.type "tuple")
 | dK {a:Addr}{kvs:List (Key × V)} (e:H a=some (.dK kvs)):aH K H (.ref a) (.type "dict")
 | dT {a:Addr}{kvs:List (List Key × V)} (e:H a=some (.dT kvs)):aH K H (.ref a) (.type "dict")
 | ins {a C dx:Addr}{fs:List (Str × V)} (e:H a=some (.ins C dx fs)) (cl:zg K C) (ha:PySem.W.findIn K (.ref C) "__class__" = some (some (.builtin "object.__class__")))
     (hn:PySem.W.specialIn K (.builtin "object.__class__") "__get__" = some (some (.builtin "getset_descriptor.__get__"))) (htk:PySem.W.takesIn K (.builtin "object.__class__")=some true)
     (hm:PySem.W.mroIn K C (.type "object")=some true):aH K H (.ref a) (.ref C)
end
end L2
namespace L2
open PySem PySem.Spec PyProof.Rows
structure gK (k:Nat) (A:Around):Prop where
 hd:A.handled=none
 dp:A.depth+3*k+5<recursionLimit
 un:A.units+16*k+200<cLine
theorem gK.mono {j k:Nat}{A:Around} (r:gK k A) (h:j≤k):gK j A:=⟨r.hd,by have:=r.dp;omega,by have:=r.un;omega⟩
theorem gK.deeper {k:Nat}{A:Around} (r:gK (k+1) A) (env:Env):gK k (A.deeper env) :=
 ⟨r.hd,by have:=r.dp;show A.depth+1+3*k+5<_;omega,by have:=r.un;show A.units+3+16*k+200<_;omega⟩
theorem gK.in1 {k:Nat}{A:Around} (r:gK (k+1) A):gK k A.in1 :=
 ⟨r.hd,by have:=r.dp;show A.depth+3*k+5<_;omega,by have:=r.un;show A.units+1+16*k+200<_;omega⟩
theorem R9 {A:Around}{C:Addr}{us:List Value}{kw:List (Str × Value)}:(A.under (.builtin "type.__call__" ⟨.ref C::us,kw⟩)).depth=A.depth+1:=by
 first | rfl | simp [Around.under,Code.weight,Code.isCreation,Code.isGuard,Code.isCaller,Code.frames,Code.isFrame,guardIds]
theorem Sd {A:Around}{C:Addr}{us:List Value}{kw:List (Str × Value)}:(A.under (.builtin "type.__call__" ⟨.ref C::us,kw⟩)).units=A.units+1:=by
 first | rfl | simp [Around.under,Code.cUnits,Code.frames,Code.isFrame]
theorem gK.make {k:Nat}{A:Around} (r:gK (k+1) A) (C:Addr) (us:List Value) (kw:List (Str × Value)):gK k (A.under (.builtin "type.__call__" ⟨.ref C::us,kw⟩)) :=
 ⟨r.hd,by have:=r.dp;rw [R9];omega,by have:=r.un;rw [Sd];omega⟩
theorem gK.depth {k:Nat}{A:Around} (r:gK k A):A.depth<recursionLimit:=by have:=r.dp;omega
theorem gK.units {k:Nat}{A:Around} (r:gK k A):A.units+64<cLine:=by have:=r.un;omega
def J0:TA:=fun _ H Q=>Q [] H
def aik (ta:TE) (tr:TA):TA:=fun σ H Q=>ta σ H fun x H1=>tr σ H1 fun xs H2=>Q (x::xs) H2
section
variable {X:Cx}{e:Expr}{es:List Expr}{te:TE}{t:TA}{pos:Pos}
theorem zC:PA X [] J0:=fun _ _ _ _ H Q I h=>Calls.spliced_nil ⟨[],H,I,.nil,h⟩
theorem zA (ha:PE X e te) (hr:PA X es t) (hs:starEach (e::es) X.env=(false,eval e X.env)::starEach es X.env:=by rfl):PA X (e::es) (aik te t):=by
 intro pos pins s σ H Q I h
 rw [hs]
 show wpAny _ _ (spliced ((false,eval e X.env)::backTo pos (starEach es X.env))) _ _ s
 refine Calls.spliced_cons (fM (ha pins s σ H _ I h) fun u s1 zq=>?_)
 obtain⟨x,H1,I1,r1,q1⟩:=zq
 exact fM (hr pos pins s1 σ H1 _ I1 q1) fun us s2 ⟨xs,H2,I2,r2,q2⟩=>⟨x::xs,H2,I2,.cons r1 r2,q2⟩
def avf (t:TA):TE:=fun σ H Q=>t σ H fun xs H1=>xs.length≤sizeLine∧∀ p,H1 p=none→Q (.ref p) (upd H1 p (.tup xs))
def avh (t:TA):TE:=fun σ H Q=>t σ H fun xs H1=>xs.length≤sizeLine∧∀ p,H1 p=none→Q (.ref p) (upd H1 p (.lst xs))
theorem yL {x1} (h:PA X es t):PE X (.Tuple es x1 pos) (avf t):=by
 intro pins s σ H Q I hq
 refine wpAny_Tuple_spliced (fM (h pos pins s σ H _ I hq) fun us s1 ⟨xs,H1,I1,r,z,q⟩=>⟨by rw [← r.length];exact z,?_⟩)
 have hf:H1 s1.heap.objs.size=none:=I1.hok.fresh (Nat.le_refl _)
 refine⟨.ref s1.heap.objs.size,upd H1 s1.heap.objs.size (.tup xs),I1.laid (t':=s1.toks) (fun b u e=>Heap.get?_push_of_some _ e) (Nat.le_refl _) ?_,rfl,q _ hf⟩
 exact⟨z,us,r,⟨_,Heap.get?_push_size _ rfl,rfl,_,rfl⟩⟩
theorem yM (h:PA X es t):PE X (.List es pos) (avh t):=by
 intro pins s σ H Q I hq
 refine wpAny_List_spliced (fM (h pos pins s σ H _ I hq) fun us s1 ⟨xs,H1,I1,r,z,q⟩=>⟨by rw [← r.length];exact z,?_⟩)
 have hf:H1 s1.heap.objs.size=none:=I1.hok.fresh (Nat.le_refl _)
 refine⟨.ref s1.heap.objs.size,upd H1 s1.heap.objs.size (.lst xs),I1.laid (t':=s1.toks) (fun b u e=>Heap.get?_push_of_some _ e) (Nat.le_refl _) ?_,rfl,q _ hf⟩
 exact⟨z,us,0,r,Heap.get?_push_size _ rfl⟩
end
abbrev Sp:=List V→Hp→VK→XK→Prop
abbrev Nr:=List Env→Hp→Shared→XK→Value→Shared→Prop
structure J1 (P:Program) (w:World) (K:PySem.W.Frag) (mg:Str→Option Value) (base:Heap) (A:Around) (outer:List Env) (s:Shared) (H:Hp):Prop where
 frames:A.frames=some outer
 mod:Mod K mg base
 bs:∀ b o,base.get? b=some o→s.heap.get? b=some o∧H b=none
 Xu:base.objs.size≤s.heap.objs.size
 wK:s.heap.FunFrames base outer
 frf:∀ b∈frs outer,H b=none
 hok:uh P w H s.heap
 bare:AllBare s.gens
def CE (outer:List Env) (P:Program) (w:World) (H:Hp) (s:Shared) (Q:VK) (u:Value) (s':Shared):Prop :=
 ∃ v H',s'.os=s.os∧AllBare s'.gens∧Un (frs outer) [] H H' s.heap s'.heap∧uh P w H' s'.heap∧RelV v u∧Q v H'
def CR (CX:Nr) (outer:List Env) (P:Program) (w:World) (H:Hp) (s:Shared) (Q:VK) (E:XK) (r:Result) (s':Shared):Prop :=
 match r with
 | .ok (.ret u)=>CE outer P w H s Q u s'
 | .ok _=>False
 | .error e=>CX outer H s E e s'
structure aN (P:Program) (w:World) (K:PySem.W.Frag) (mg:Str→Option Value) (base:Heap) (CX:Nr) (k:Nat) (f:Addr) (fd:FuncData) (ps:List Str) (sp:Sp):Prop where
 len:∀ vs H Q E,sp vs H Q E→vs.length=ps.length
 run:∀ (A:Around) (outer:List Env) (s:Shared) (H:Hp) (args:Args) (us:List Value) (vs:List V) (Q:VK) (E:XK),gK k A→J1 P w K mg base A outer s H→BindsTo s fd args (ps.zip us)→Vals vs us→sp vs H Q E →
   codeAny (model P w) A (.call (.ref f) args) (CR CX outer P w H s Q E) s
theorem aN.mono {P:Program}{w:World}{K:PySem.W.Frag}{mg:Str→Option Value}{base:Heap}{CX:Nr}{j k:Nat}{f:Addr}{fd:FuncData}{ps:List Str}{sp:Sp} (F:aN P w K mg base CX j f fd ps sp) (h:j≤k) :
   aN P w K mg base CX k f fd ps sp:=⟨F.len,fun A outer s H args us vs Q E hr=>F.run A outer s H args us vs Q E (hr.mono h)⟩
theorem aN.imp {P:Program}{w:World}{K:PySem.W.Frag}{mg:Str→Option Value}{base:Heap}{CX:Nr}{k:Nat}{f:Addr}{fd:FuncData}{ps:List Str}{sp sp':Sp} (F:aN P w K mg base CX k f fd ps sp)
   (h:∀ vs H Q E,sp' vs H Q E→sp vs H Q E):aN P w K mg base CX k f fd ps sp' :=
 ⟨fun vs H Q E q=>F.len vs H Q E (h _ _ _ _ q),fun A outer s H args us vs Q E hr he hb hv hs=>F.run A outer s H args us vs Q E hr he hb hv (h _ _ _ _ hs)⟩
theorem J1.make {P:Program}{w:World}{K:PySem.W.Frag}{mg:Str→Option Value}{base:Heap}{A:Around}{outer:List Env}{s:Shared}{H:Hp} (e:J1 P w K mg base A outer s H) (C:Addr) (us:List Value) (kw:List (Str × Value)) :
   J1 P w K mg base (A.under (.builtin "type.__call__" ⟨.ref C::us,kw⟩)) outer s H:=⟨by first | exact e.frames | (simpa [Around.under,Code.envs,Code.isFrame,pushEnvs] using e.frames),e.mod,e.bs,e.Xu,e.wK,e.frf,e.hok,e.bare⟩
theorem J1.in1 {P:Program}{w:World}{K:PySem.W.Frag}{mg:Str→Option Value}{base:Heap}{A:Around}{outer:List Env}{s:Shared}{H:Hp} (e:J1 P w K mg base A outer s H) :
   J1 P w K mg base A.in1 outer s H:=⟨e.frames,e.mod,e.bs,e.Xu,e.wK,e.frf,e.hok,e.bare⟩
section
variable {X:Cx}{pins:List (Addr × Obj)}{σ:St}{H:Hp}{s s':Shared}
theorem Inv.env0 (I:Inv X pins σ H s):J1 X.prog X.w X.K X.mg X.base X.A X.stack s H :=
 ⟨I.ok.frames,I.ok.mod,I.bs,Nat.le_trans I.ok.Xu I.sz,I.stack,I.vB,I.hok,I.bare⟩
theorem Inv.after {Q:VK}{u:Value} (I:Inv X pins σ H s) (h:CE X.stack X.prog X.w H s Q u s'):EP X pins σ Q u s':=by
 obtain⟨v,H',os,bare,un,hok,r,q⟩:=h
 obtain⟨hh,g,d,t,os'⟩:=s'
 obtain rfl:os'=s.os:=os
 exact⟨v,H',I.call (h':=hh) (g':=g) (d':=d) (t':=t) (ch:=[]) un hok bare (fun b z=>absurd z (by simp)),r,q⟩
end
def ac3 (sp:Sp) (vR:List V) (E:XK) (t:TA):TE:=fun σ H Q=>t σ H fun vs H1=>sp (vs++vR) H1 Q E
def ac4 (C:Addr) (sp:Sp) (vR:List V) (E:XK) (t:TA):TE:=fun σ H Q=>t σ H fun vs H1=>∀ x dx,H1 x=none→H1 dx=none→dx≠x →
 sp (.ref x::(vs++vR)) (upd (upd H1 dx (.own x)) x (.ins C dx [])) (fun v H2=>v=.non∧Q (.ref x) H2) E
def Binds (K:PySem.W.Frag) (fd:FuncData) (ps:List Str) (ds:List Value):Prop :=
 ∀ (s:Shared) (us:List Value),K.In s.heap→(us++ds).length=ps.length→BindsTo s fd ⟨us,[]⟩ (ps.zip (us++ds))
theorem Binds.all {K:PySem.W.Frag}{fd:FuncData}{ps:List Str} (h:∀ us:List Value,us.length=ps.length→bindArgs fd ⟨us,[]⟩=pure (ps.zip us)):Binds K fd ps []:=fun s us _ hl=>by
 rw [List.append_nil] at hl ⊢
 exact .of_eq (h us hl)
def Passes (CX:Nr) (X:Cx) (E:XK):Prop:=∀ (pins:List (Addr × Obj)) (σ:St) (H:Hp) (s:Shared) (e:Value) (s':Shared),Inv X pins σ H s→CX X.stack H s E e s'→X.xe e s'
section
variable {X:Cx}{CX:Nr}{k:Nat}{f C:Addr}{fd:FuncData}{ps:List Str}{sp:Sp}{vR:List V}{ds:List Value}{E:XK}{x m:Str}{p pos apos:Pos}{e o:Expr}{es:List Expr}{ta:TE}{t:TA}
theorem Nt {pins:List (Addr × Obj)}{σ:St}{H:Hp}{s:Shared}{Q:VK}{us:List Value}{vs:List V} (F:aN X.prog X.w X.K X.mg X.base CX k f fd ps sp) (hr:gK k X.A) (hb:Binds X.K fd ps ds) (hd:Vals vR ds) (hx:Passes CX X E)
   (I:Inv X pins σ H s) (r:Vals vs us) (h:sp (vs++vR) H Q E):wpAny (model X.prog X.w) X.A (call (.ref f) us) (EP X pins σ Q) X.xe s:=by
 have r2:Vals (vs++vR) (us++ds):=r.append hd
 have hl:(us++ds).length=ps.length:=by rw [← r2.length];exact F.len _ _ _ _ h
 refine wpAny_call (codeAny_mono (F.run X.A X.stack s H ⟨us,[]⟩ (us++ds) (vs++vR) Q E hr I.env0 (hb s us I.ug hl) r2 h) fun r s' hq=>?_)
 cases r with
 | error e=>exact hx pins σ H s e s' I hq
 | ok fl =>
   cases fl with
   | ret u=>exact I.after hq
   | next=>exact False.elim hq
   | brk=>exact False.elim hq
   | cont=>exact False.elim hq
theorem zO (F:aN X.prog X.w X.K X.mg X.base CX k f fd ps sp) (hr:gK k X.A) (hg:Gl X x) (hm:X.mg x=some (.ref f)) (hk:PySem.W.keepIn X.K (.ref f)=true) (hb:Binds X.K fd ps ds) (hd:Vals vR ds) (hx:Passes CX X E)
   (ha:PA X (e::es) t) (hdb:(x == ("__debug__":Str))=false:=by decide) (he:starEach (e::es) X.env=(false,eval e X.env)::starEach es X.env:=by rfl) (hpl:(backTo pos (starEach es X.env)).any (·.1)=false:=by rfl) :
   PE X (.Call (.Name x p) (e::es) [] pos) (ac3 sp vR E t):=by
 intro pins s σ H Q I h
 refine wpAny_Call_Name_kw (xZ I hg hm ?_ hdb)
 refine PySem.W.callWith_K (h₀:=X.base) I.ok.mod.kin hk (fM (ha pos pins s σ H _ I h) fun us s1 ⟨vs,H1,I1,r,q⟩=>⟨I1.ug,?_⟩) he hpl
 exact Nt F hr hb hd hx I1 r q
structure Mk (K:PySem.W.Frag) (C f:Addr):Prop where
 makes:PySem.W.makesIn K C=true
 init:PySem.W.findIn K (.ref C) "__init__" = some (some (.ref f))
 fn:PySem.W.isFn K (.ref f)=true
 kp:PySem.W.keepIn K (.ref C)=true
theorem P0 {pins:List (Addr × Obj)}{σ:St}{H:Hp}{s:Shared}{Q:VK}{us:List Value}{vs:List V} (M:Mk X.K C f) (F:aN X.prog X.w X.K X.mg X.base CX k f fd ps sp) (hr:gK (k+1) X.A) (hb:Binds X.K fd ps ds) (hd:Vals vR ds)
   (hx:Passes CX X E) (I:Inv X pins σ H s) (r:Vals vs us)
   (h:∀ x dx,H x=none→H dx=none→dx≠x→sp (.ref x::(vs++vR)) (upd (upd H dx (.own x)) x (.ins C dx [])) (fun v H2=>v=.non∧Q (.ref x) H2) E) :
   wpAny (model X.prog X.w) X.A (call (.ref C) us) (EP X pins σ Q) X.xe s:=by
 have hq:=h (s.heap.objs.size+1) s.heap.objs.size (I.hok.fresh (Nat.le_succ _)) (I.hok.fresh (Nat.le_refl _)) (Nat.ne_of_lt (Nat.lt_succ_self _))
 have I2:=Inv.made (C:=C) I
 have r2:Vals (V.ref (s.heap.objs.size+1)::(vs++vR)) (Value.ref (s.heap.objs.size+1)::(us++ds)):=.cons rfl (r.append hd)
 have hl:(Value.ref (s.heap.objs.size+1)::us++ds).length=ps.length:=by
   have e:=r2.length
   rw [F.len _ _ _ _ hq] at e
   exact e.symm
 refine wpAny_call (X3 (f:=f) I.ug M.makes M.init (beq_iff_eq.mp M.fn) (codeAny_mono (F.run _ X.stack _ _ ⟨Value.ref (s.heap.objs.size+1)::us,[]⟩ (Value.ref (s.heap.objs.size+1)::(us++ds)) _ _ E (hr.make C us [])
   (I2.env0.make C us []) (hb _ (Value.ref (s.heap.objs.size+1)::us) I2.ug hl) r2 hq) fun r s' hq'=>?_))
 cases r with
 | error e=>exact hx pins σ _ _ e s' I2 hq'
 | ok fl =>
   cases fl with
   | ret u =>
     obtain⟨v,H',I3,rv,ev,q3⟩:=I2.after hq'
     subst ev
     exact⟨rv,⟨V.ref (s.heap.objs.size+1),H',I3,rfl,q3⟩⟩
   | next=>exact False.elim hq'
   | brk=>exact False.elim hq'
   | cont=>exact False.elim hq'
theorem yP (M:Mk X.K C f) (F:aN X.prog X.w X.K X.mg X.base CX k f fd ps sp) (hr:gK (k+1) X.A) (hg:Gl X x) (hm:X.mg x=some (.ref C)) (hb:Binds X.K fd ps ds) (hd:Vals vR ds) (hx:Passes CX X E)
   (ha:PA X (e::es) t) (hdb:(x == ("__debug__":Str))=false:=by decide) (he:starEach (e::es) X.env=(false,eval e X.env)::starEach es X.env:=by rfl) (hpl:(backTo pos (starEach es X.env)).any (·.1)=false:=by rfl) :
   PE X (.Call (.Name x p) (e::es) [] pos) (ac4 C sp vR E t):=by
 intro pins s σ H Q I h
 refine wpAny_Call_Name_kw (xZ I hg hm ?_ hdb)
 refine PySem.W.callWith_K (h₀:=X.base) I.ok.mod.kin M.kp (fM (ha pos pins s σ H _ I h) fun us s1 ⟨vs,H1,I1,r,q⟩=>⟨I1.ug,?_⟩) he hpl
 exact P0 M F hr hb hd hx I1 r q
theorem Qa (M:Mk X.K C f) (F:aN X.prog X.w X.K X.mg X.base CX k f fd ps sp) (hr:gK (k+1) X.A) (hg:Gl X x) (hm:X.mg x=some (.ref C)) (hb:Binds X.K fd ps ds) (hd:Vals vR ds) (hx:Passes CX X E)
   (hdb:(x == ("__debug__":Str))=false:=by decide):PE X (.Call (.Name x p) [] [] pos) (ac4 C sp vR E J0):=by
 intro pins s σ H Q I h
 refine wpAny_Call_Name_kw (xZ I hg hm ?_ hdb)
 exact PySem.W.callWith_K0 I.ug M.kp (P0 (us:=[]) M F hr hb hd hx I .nil h)
end
section
variable {X:Cx}{CX:Nr}{k:Nat}{f C:Addr}{fd:FuncData}{ps ks:List Str}{sp:Sp}{E:XK}{x m:Str}{p pos apos aGh:Pos}{e o:Expr}{es:List Expr}{kws:List Keyword}{te ta:TE}{t tk:TA}{nm:Option Str}
structure avi (K:PySem.W.Frag) (fd:FuncData) (ps ks:List Str) (g:List Value→List Value→List Value) (gV:List V→List V→List V):Prop where
 to:∀ (s:Shared) (us ws:List Value),K.In s.heap→(g us ws).length=ps.length→BindsTo s fd ⟨us,ks.zip ws⟩ (ps.zip (g us ws))
 rel:∀ {vs:List V}{us:List Value}{zs:List V}{ws:List Value},Vals vs us→Vals zs ws→Vals (gV vs zs) (g us ws)
variable {g:List Value→List Value→List Value}{gV:List V→List V→List V}
end
structure au (N P:List Str) (sc:Scope):Prop where
 kind:sc.kind=.function
 co:sc.isCoroutine=false
 gen:sc.isGenerator=false
 nd:N.Nodup
 pre:N.take P.length=P
 par:∀ x∈P,sc.names.lookup x=some .local∨sc.names.lookup x=some .cell
 aec:∀ y∈sc.names,y.2≠.free
theorem Mi {kindOf:Str→Option NameKind}{x:Str}:∀ {binds:List (Str × Value)}{m:Str→Option Value},(∀ v,(x,v)∉binds)→bindL kindOf binds m x=m x
 | [],_,_=>rfl
 | (n,v)::r,m,h=>by
   unfold bindL
   rw [Mi fun w hw=>h w (List.mem_cons_of_mem _ hw)]
   split
   · have:x≠n:=by rintro rfl;exact h v List.mem_cons_self
     simp [this]
   · rfl
theorem Mj {kindOf:Str→Option NameKind}{x:Str}:∀ {binds:List (Str × Value)}{m:Str→Option Value},(∀ v,(x,v)∉binds)→bindC kindOf binds m x=m x
 | [],_,_=>rfl
 | (n,v)::r,m,h=>by
   unfold bindC
   rw [Mj fun w hw=>h w (List.mem_cons_of_mem _ hw)]
   split
   · rfl
   · have:x≠n:=by rintro rfl;exact h v List.mem_cons_self
     simp [this]
theorem Ml {kindOf:Str→Option NameKind}{x:Str}{v:Value}:∀ {P:List Str}{vs:List Value}{i:Nat}{m:Str→Option Value},P.Nodup→P[i]? = some x→vs[i]? = some v→kindOf x=some .local →
   bindL kindOf (P.zip vs) m x=some v
 | [],_,_,_,_,h,_,_=>by simp at h
 | _::_,[],_,_,_,_,h,_=>by simp at h
 | p::P,w::vs,0,m,nd,h1,h2,hk=>by
   simp at h1 h2;subst h1;subst h2
   show bindL kindOf ((p,w)::P.zip vs) m p=_
   unfold bindL
   rw [Mi fun v hv=>(List.nodup_cons.mp nd).1 (List.of_mem_zip hv).1,if_pos hk]
   simp
 | p::P,w::vs,i+1,m,nd,h1,h2,hk=>by
   show bindL kindOf ((p,w)::P.zip vs) m x=_
   unfold bindL
   exact Ml (i:=i) (List.nodup_cons.mp nd).2 (by simpa using h1) (by simpa using h2) hk
theorem Mm {kindOf:Str→Option NameKind}{x:Str}{v:Value}:∀ {P:List Str}{vs:List Value}{i:Nat}{m:Str→Option Value},P.Nodup→P[i]? = some x→vs[i]? = some v→kindOf x≠some .local →
   bindC kindOf (P.zip vs) m x=some v
 | [],_,_,_,_,h,_,_=>by simp at h
 | _::_,[],_,_,_,_,h,_=>by simp at h
 | p::P,w::vs,0,m,nd,h1,h2,hk=>by
   simp at h1 h2;subst h1;subst h2
   show bindC kindOf ((p,w)::P.zip vs) m p=_
   unfold bindC
   rw [Mj fun v hv=>(List.nodup_cons.mp nd).1 (List.of_mem_zip hv).1,if_neg hk]
   simp
 | p::P,w::vs,i+1,m,nd,h1,h2,hk=>by
   show bindC kindOf ((p,w)::P.zip vs) m x=_
   unfold bindC
   exact Mm (i:=i) (List.nodup_cons.mp nd).2 (by simpa using h1) (by simpa using h2) hk
def start (N:List Str) (vs:List V):St:=vs.map some++List.replicate (N.length - vs.length) none
def eF (CX:Nr) (P:Program) (w:World) (K:PySem.W.Frag) (mg:Str→Option Value) (base:Heap) (N:List Str) (qual:Str) (scope:Scope) (f:Addr) (cd:Value) (A:Around) (outer:List Env) (s:Shared) (H:Hp) (E:XK):Cx where
 prog:=P
 w:=w
 K:=K
 mg:=mg
 base:=base
 A:=A.deeper (envOfC qual scope s.heap.objs.size f cd)
 N:=N
 s₀:=s
 H₀:=H
 env:=envOfC qual scope s.heap.objs.size f cd
 outer:=outer
 stack:=envOfC qual scope s.heap.objs.size f cd::outer
 ex:=[]
 calm:=true
 fn:=fun _=>true
 pn:=[]
 xe:=fun e s'=>wpAny (model P w) (A.deeper (envOfC qual scope s.heap.objs.size f cd)) (leaving (envOfC qual scope s.heap.objs.size f cd) e) (fun _ s''=>CX outer H s E e s'') (fun e' s''=>CX outer H s E e' s'') s'
theorem Qc {sc:Scope}{n:Nat}{x:Str} (h:sc.names.lookup x=some .cell):∃ c,(cellsFrom n sc.names []).lookup x=some c:=by
 have q:=PySem.W.cellsFrom_some sc.names n [] (.inl h)
 exact Option.isSome_iff_exists.mp q
theorem V6 {CX:Nr}{P:Program}{w:World}{K:PySem.W.Frag}{mg:Str→Option Value}{base:Heap}{N ps:List Str}{qual:Str}{scope:Scope}{f:Addr}{cd:Value}{A:Around}{outer:List Env}{s s1:Shared}{H:Hp}{E:XK}{us:List Value}{vs:List V}
   (S:au N ps scope) (hd:A.handled=none) (e0:J1 P w K mg base A outer s H) (hl:vs.length=ps.length) (r:Vals vs us)
   (x:InCallC s s.heap.objs.size (bindL (envOfC qual scope s.heap.objs.size f cd).kindOf (ps.zip us) fun _=>none) (cellsFrom (s.heap.objs.size+1) scope.names []) (bindC (envOfC qual scope s.heap.objs.size f cd).kindOf (ps.zip us) fun _=>none) s1) :
   Inv (eF CX P w K mg base N qual scope f cd A outer s H E) [] (start N vs) H s1:=by
 have hpl:ps.length≤N.length:=by have:=congrArg List.length S.pre;rw [List.length_take] at this;omega
 obtain⟨h1,tk,rfl,hk⟩:=x.done
 have noA:∀ b:Addr,b∉(eF CX P w K mg base N qual scope f cd A outer s H E).ex:=fun b z=>absurd (show b∈([]:List Addr) from z) (by simp)
 refine⟨⟨e0.mod,S.kind,rfl,rfl,Nat.le_refl _,fun y z c h1 h2=>?_,fun y hy=>?_,fun y c _ h=>?_,fun _=>hd,Around.frames_deeper e0.frames,.inr ⟨rfl,rfl⟩,fun b z=>absurd z (noA b),e0.bs,e0.Xu,fun b _ _=>noA b,fun b z=>absurd z (noA b),e0.wK,e0.frf⟩,
   rfl,e0.bare,Un.kept hk,⟨_,x.toInCall.ns,fun i y v h1 h2 h3=>?_⟩,fun y c h=>⟨_,x.cell y c h⟩,e0.hok.fresh (Nat.le_refl _),fun y c h=>?_,fun p hp=>absurd (show p∈([]:List (Addr × Obj)) from hp) (by simp),e0.hok.kept hk,?_⟩
 · exact name_of_addr x.apart (PySem.mem_of_lookup h1) (PySem.mem_of_lookup h2)
 · have hy:scope.names.lookup y=some .cell∨scope.names.lookup y=some .free:=hy
   rcases hy with hy | hy
   · exact Qc hy
   · exact absurd rfl (S.aec _ (PySem.mem_of_lookup hy))
 · exact Nat.le_of_lt (x.above y c (PySem.mem_of_lookup h))
 · have hi:i<vs.length:=by
     unfold start at h2
     by_cases hi:i<vs.length
     · exact hi
     · rw [List.getElem?_append_right (by simpa using hi)] at h2
       rw [List.getElem?_replicate] at h2
       split at h2 <;> cases h2
   have ha:vs[i]? = some v:=by
     unfold start at h2
     rw [List.getElem?_append_left (by simpa using hi),List.getElem?_map] at h2
     cases e:vs[i]? with
     | none=>rw [e] at h2;cases h2
     | some a=>rw [e] at h2;cases h2;rfl
   obtain⟨u,hu,rv⟩:=r.get ha
   have hp:ps[i]? = some y:=by
     rw [← S.pre,List.getElem?_take_of_lt (by omega)];exact h1
   have ndP:ps.Nodup:=by rw [← S.pre];exact S.nd.sublist (List.take_sublist _ _)
   refine⟨u,rv,?_⟩
   rcases S.par y (List.mem_of_getElem? hp) with k | k
   · exact .inl ⟨k,Ml ndP hp hu k⟩
   · obtain⟨c,e⟩:=Qc (n:=s.heap.objs.size+1) k
     refine .inr ⟨.inl k,c,e,?_⟩
     have q:=x.cell y c e
     rw [Mm ndP hp hu (by show scope.names.lookup y≠_;rw [k];decide)] at q
     exact q
 · exact e0.hok.fresh (Nat.le_of_lt (x.above y c (PySem.mem_of_lookup h)))
 · unfold start
   show _=N.length
   rw [List.length_append,List.length_map,List.length_replicate]
   omega
theorem UJ {CX:Nr}{P:Program}{w:World}{K:PySem.W.Frag}{mg:Str→Option Value}{base:Heap}{k:Nat}{f:Addr}{name qual:Str}{params:Arguments}{body:List Stmt}{scope:Scope}{dV kV doc pm cdv ct oc:Value}{an od:Option Addr}
   {osl:Array (Option Value)}{N ps:List Str}{sp:Sp} (lk:K.lookup f=some ⟨oc,od,.func (PySem.W.fnOf name qual params body scope dV kV doc pm an cdv ct),osl⟩) (hcd:PySem.W.codeIn K cdv qual=true) (S:au N ps scope)
   (len:∀ vs H Q E,sp vs H Q E→vs.length=ps.length)
   (hbody:∀ (A:Around) (outer:List Env) (s:Shared) (H:Hp) (vs:List V) (Q:VK) (E:XK),gK k (A.deeper (envOfC qual scope s.heap.objs.size f cdv))→sp vs H Q E →
     ∃ t,qG (eF CX P w K mg base N qual scope f cdv A outer s H E) body t∧t { nx:=fun _ H'=>Q .non H',rt:=Q } (start N vs) H) :
   aN P w K mg base CX (k+1) f (PySem.W.fnOf name qual params body scope dV kV doc pm an cdv ct) ps sp:=by
 refine⟨len,fun A outer s H args us vs Q E hr e0 hb r hsp=>?_⟩
 have hl:=len _ _ _ _ hsp
 have KX:K.In s.heap:=e0.mod.kin.keeps fun b o e=>(e0.bs b o e).1
 have lim:s.heap.NoLimit:=e0.mod.nolimit.keeps fun b o e=>(e0.bs b o e).1
 have hkind:∀ y∈ps.zip us,scope.names.lookup y.1=some .local∨(scope.names.lookup y.1=some .cell∧((cellsFrom (s.heap.objs.size+1) scope.names []).lookup y.1).isSome=true):=fun⟨n,v⟩ hy=>by
   rcases S.par n (List.of_mem_zip hy).1 with q | q
   · exact .inl q
   · exact .inr ⟨q,PySem.W.cellsFrom_some _ _ _ (.inl q)⟩
 refine codeAny_call_function hr.depth (KX _ _ lk) rfl S.co S.gen rfl (PySem.W.codeRec_of KX hcd) (hb _ _ _ _ ?_)
 refine wpAny_newFunctionEnv_cells S.kind hkind fun env he s1 x=>?_
 subst he
 refine⟨lim.keeps x.toInCall.keep,codeAny_func ?_⟩
 obtain⟨t,ht,hq⟩:=hbody A outer s H vs Q E (hr.deeper _) hsp
 have I:Inv (eF CX P w K mg base N qual scope f cdv A outer s H E) [] (start N vs) H s1:=V6 S hr.hd e0 hl r x
 refine wpAny_mono (ht [] s1 (start N vs) H _ I hq) (fun fl s' hs=>?_) fun e s' hs=>hs
 have fin:∀ {σ':St}{H':Hp}{v:V}{u:Value},Inv (eF CX P w K mg base N qual scope f cdv A outer s H E) [] σ' H' s'→RelV v u→Q v H'→CE outer P w H s Q u s' :=
   fun {σ' H' v u} J rv q=>⟨v,H',J.os,J.bare,J.base,J.hok,rv,q⟩
 cases fl with
 | ret u =>
   obtain⟨v,σ',H',J,rv,q⟩:=hs
   exact fin J rv q
 | next =>
   obtain⟨σ',H',J,q⟩:=hs
   exact fin (v:=V.non) (u:=Value.none) J rfl q
 | brk =>
   obtain⟨_,_,_,q⟩:=hs
   exact False.elim q
 | cont =>
   obtain⟨_,_,_,q⟩:=hs
   exact False.elim q
end L2
namespace L2
open PySem PySem.Spec PyProof.Rows
section
variable {X:Cx}{x:Str}{p pos:Pos}{e:Expr}{es:List Expr}{t:TA}{id T:String}{r:List V→Hp→VK→Prop}
def tCB (r:List V→Hp→VK→Prop) (t:TA):TE:=fun σ H Q=>t σ H fun vs H1=>r vs H1 Q
theorem zY (hc:d8 X (.builtin id) r) (hg:Gl X x) (hm:X.mg x=none) (hv:bootBuiltins x=some (.builtin id)) (ha:PA X (e::es) t) (hn:x≠"__name__":=by decide) (hdb:(x == ("__debug__":Str))=false:=by decide)
   (he:starEach (e::es) X.env=(false,eval e X.env)::starEach es X.env:=by rfl) (hpl:(backTo pos (starEach es X.env)).any (·.1)=false:=by rfl):PE X (.Call (.Name x p) (e::es) [] pos) (tCB r t):=by
 intro pins s σ H Q I h
 refine wpAny_Call_Name_kw (Hc I hg hm hv ?_ hn hdb)
 exact PyProof.Rows.callWith_builtin1 (fM (ha pos pins s σ H _ I h) fun us s1 ⟨vs,H1,I1,r1,q1⟩=>hc pins s1 σ H1 vs us Q I1 r1 q1) he hpl
theorem yG (hc:d8 X (.type T) r) (hg:Gl X x) (hm:X.mg x=none) (hv:bootBuiltins x=some (.type T)) (ha:PA X (e::es) t) (hn:x≠"__name__":=by decide) (hdb:(x == ("__debug__":Str))=false:=by decide)
   (he:starEach (e::es) X.env=(false,eval e X.env)::starEach es X.env:=by rfl) (hpl:(backTo pos (starEach es X.env)).any (·.1)=false:=by rfl):PE X (.Call (.Name x p) (e::es) [] pos) (tCB r t):=by
 intro pins s σ H Q I h
 refine wpAny_Call_Name_kw (Hc I hg hm hv ?_ hn hdb)
 exact PyProof.Rows.callWith_type1 (fM (ha pos pins s σ H _ I h) fun us s1 ⟨vs,H1,I1,r1,q1⟩=>hc pins s1 σ H1 vs us Q I1 r1 q1) he hpl
end
end L2
namespace HT
open PySem PyProof.Rows
def lexLt:List Int→List Int→Bool
 | [],[]=>false
 | [],_::_=>true
 | _::_,[]=>false
 | x::xs,y::ys=>if x=y then lexLt xs ys else decide (x<y)
theorem wL (x y:Int) (xs ys:List Int):lexLt (x::xs) (y::ys)=if x=y then lexLt xs ys else decide (x<y):=rfl
theorem J2:lexLt [] []=false:=rfl
theorem Hi (y:Int) (ys:List Int):lexLt [] (y::ys)=true:=rfl
theorem Hj (x:Int) (xs:List Int):lexLt (x::xs) []=false:=rfl
theorem X4 (A:Around) (s:Shared) (a:Int) (t:Tok) (c:Int) (u:Tok):∃ e,SeqAt.EqAt A s (.int a t) (.int c u) e∧(e=true↔a=c) :=
 ⟨(a == c),SeqAt.EqAt.int_int a t c u,by simp⟩
theorem X5 (A:Around) (s:Shared) (a:Int) (t:Tok) (c:Int) (u:Tok) (prog:Program) (w:World) (E:Value→Shared→Prop) (Q:Value→Shared→Prop) (h:Q (.bool (decide (a<c))) s) :
   wpAny (model prog w) A (richCompare .Lt (.int a t) (.int c u)) Q E s :=
 (PyProof.Rows.lt_int h:wpAny (model prog w) A (compareOp .Lt (.int a t) (.int c u)) Q E s)
section
open PySem.SeqAt
open PySem.AutoSeq1 (wpAny_loadPart')
open PySem.MeetsSeq PySem.MeetsSeq2 PySem.MeetsSeq3
theorem J3 (l b:Addr) (items items2:Array Value) (n n2:Nat) (dd dd2:Option Addr) (sl sl2:Array (Option Value)) (ns ms:List Int) (hi:IntsAre items.toList ns) (hj:IntsAre items2.toList ms) :
   Meets (Builtin.«tuple.__lt__» ⟨[.ref l,.ref b],[]⟩)
     (fun _ R s=>s.heap.get? l=some { cls:=.type "tuple",dict:=dd,data:=.seq items n,slots:=sl }∧s.heap.get? b=some { cls:=.type "tuple",dict:=dd2,data:=.seq items2 n2,slots:=sl2 } ∧
       R (.ok (.ret (.bool (lexLt ns ms)))) s) :=
 .of_wp fun prog w A R s h=>by
   obtain⟨hp,g,d,tk,os⟩:=s;obtain⟨hl,hb,h⟩:=h
   have f2:=AutoSeq1.sub_tuple_tuple
   have z1:items.size=ns.length:=by rw [← hi.length];simp
   have z2:items2.size=ms.length:=by rw [← hj.length];simp
   wp_walk using wpAny_loadPart' hl,wpAny_loadPart' hb,wpAny_forIn_list _ (fun rest b s'=>b.1=none∧s'=⟨hp,g,d,tk,os⟩∧∃ (vs ws:List Value) (ns' ms':List Int),rest=vs.zip ws ∧
     IntsAre vs ns'∧IntsAre ws ms'∧ns'.length+items2.size=ms'.length+items.size∧R (.ok (.ret (.bool (lexLt ns' ms')))) ⟨hp,g,d,tk,os⟩) _
   case turn =>
     rintro ⟨y,x⟩ rest b s' ⟨hb',rfl,vs,ws,ns',ms',hz,hvi,hwi,hlen,hR⟩
     cases hvi with
     | nil=>rw [List.zip_nil_left] at hz;cases hz
     | cons a t avk =>
       cases hwi with
       | nil=>rw [List.zip_nil_right] at hz;cases hz
       | cons c u avl =>
         rw [List.zip_cons_cons] at hz
         injection hz with hyx hrest
         injection hyx with hy hx
         subst hy hx
         rw [wL] at hR
         simp only [List.length_cons] at hlen
         obtain⟨e,he,aim⟩:=X4 A.in1 ⟨hp,g,d,tk,os⟩ a t c u
         refine wpAny_bind (he prog w _ _ ?_)
         cases e with
         | true =>
           rw [if_pos (aim.mp rfl)] at hR
           wp_walk
           exact⟨rfl,rfl,_,_,_,_,hrest,avk,avl,by omega,hR⟩
         | false =>
           rw [if_neg (fun q=>absurd (aim.mpr q) Bool.false_ne_true)] at hR
           have hri:=X5 A.in1 ⟨hp,g,d,tk,os⟩ a t c u prog w
           wp_walk using hri
           exact⟨_,rfl,by simpa using hR⟩
   case fin =>
     rintro ⟨b1,b2⟩ s' ⟨hb',rfl,vs,ws,ns',ms',hz,hvi,hwi,hlen,hR⟩
     simp only at hb'
     subst hb'
     have hv:lexLt ns' ms'=decide (items.size<items2.size):=by
       cases hvi with
       | nil =>
         cases hwi with
         | nil =>
           simp only [List.length_nil] at hlen
           rw [J2]
           exact (decide_eq_false (by omega)).symm
         | cons c u hw =>
           simp only [List.length_nil,List.length_cons] at hlen
           rw [Hi]
           exact (decide_eq_true (by omega)).symm
       | cons a t hv =>
         cases hwi with
         | nil =>
           simp only [List.length_nil,List.length_cons] at hlen
           rw [Hj]
           exact (decide_eq_false (by omega)).symm
         | cons c u hw =>
           rw [List.zip_cons_cons] at hz
           cases hz
     rw [hv] at hR
     wp_walk
     exact⟨_,rfl,by simpa [Builtin.Tuple.tupleCompareSizes] using hR⟩
   case h =>
     exact⟨rfl,rfl,items.toList,items2.toList,ns,ms,rfl,hi,hj,by omega,h⟩
end
section
variable {prog:Program}{w:World}{A:Around}{E:Value→Shared→Prop}{s:Shared}
theorem Sg {l b:Addr}{items items2:Array Value}{ns ms:List Int}{Q:Value→Shared→Prop} (hl:IsTup s.heap l items) (hb:IsTup s.heap b items2) (hi:IntsAre items.toList ns) (hj:IntsAre items2.toList ms)
   (hu:A.units<cLine) (h:Q (.bool (lexLt ns ms)) s):wpAny (model prog w) A (compareOp .Lt (.ref l) (.ref b)) Q E s:=by
 obtain⟨⟨cls,dd,data,sl⟩,ho,hc,n,hd⟩:=id hl
 obtain⟨⟨cls2,dd2,data2,sl2⟩,ho2,hc2,n2,hd2⟩:=id hb
 simp only at hc hd hc2 hd2
 subst hc hd hc2 hd2
 exact richCompare_meets_room (op:=.Lt) ⟨_,ho,rfl⟩ ⟨_,ho2,rfl⟩ PySem.F.slot_tuple_lt PySem.F.entry_tuple_lt (PySem.F.args_tuple_lt_2 _ _) (J3 l b items items2 n n2 dd dd2 sl sl2 ns ms hi hj)
   ⟨ho,ho2,show Value.bool (lexLt ns ms)≠Value.notImplemented∧Q (.bool (lexLt ns ms)) s from ⟨(fun x=>nomatch x),h⟩⟩ hu
def wz (n d:Nat):Option Int→Nat
 | none=>d
 | some v=>if v<0 then (v+(n:Int)).toNat else min v.toNat n
theorem aed (n d:Nat) (hd:d≤n) (o:Option Int):wz n d o≤n:=by
 cases o with
 | none=>exact hd
 | some v =>
   show (if v<0 then (v+(n:Int)).toNat else min v.toNat n)≤n
   by_cases hv:v<0
   · rw [if_pos hv];omega
   · rw [if_neg hv];exact Nat.min_le_right _ _
end
end HT
namespace L2
open PySem PySem.Spec PyProof.Rows
abbrev TO:=St→Hp→(Option Int→Hp→Prop)→Prop
def PO (X:Cx) (e:Option Expr) (t:TO):Prop :=
 ∀ (pins:List (Addr × Obj)) (s:Shared) (σ:St) (H:Hp) (Q:Option Int→Hp→Prop),Inv X pins σ H s→t σ H Q →
   wpAny (model X.prog X.w) X.A (evalPart e X.env) (fun u s'=>∃ o H',Inv X pins σ H' s'∧IsPart u o∧Q o H') X.xe s
def Nu:TO:=fun _ H Q=>Q none H
def X6 (t:TE):TO:=fun σ H Q=>t σ H fun x H1=>∃ i,x=.int i∧Q (some i) H1
theorem intsAre_of {ns:List Int}:∀ {us:List Value},Vals (ns.map V.int) us→IntsAre us ns:=by
 induction ns with
 | nil=>intro us r;rw [List.map_nil] at r;cases r;exact .nil
 | cons n ns ih =>
   intro us r
   rw [List.map_cons] at r
   cases r with
   | cons r1 r2 =>
     obtain⟨t,e⟩:=r1
     subst e
     exact .cons n t (ih r2)
section
variable {X:Cx}{e:Expr}{te:TE}{lo hi:Option Expr}{tl th:TO}{pos p2:Pos}
theorem vD:PO X none Nu:=by
 intro pins s σ H Q I h
 rw [evalPart_none]
 exact wpAny_pure ⟨none,H,I,.none,h⟩
theorem vG (h:PE X e te):PO X (some e) (X6 te):=by
 intro pins s σ H Q I hw
 rw [evalPart_some]
 refine fM (h pins s σ H _ I hw) fun u s1 zq=>?_
 obtain⟨x,H1,I1,r1,q1⟩:=zq
 obtain⟨i,rfl,q⟩:=q1
 obtain⟨t,rfl⟩:=r1
 exact⟨some i,H1,I1,.int i t,q⟩
def Dk (X:Cx) (r:V→Option Int→Option Int→Hp→VK→Prop):Prop :=
 ∀ (pins:List (Addr × Obj)) (s:Shared) (σ:St) (H:Hp) (x:V) (v vl vu:Value) (lo hi:Option Int) (sl:Addr) (Q:VK),Inv X pins σ H s→RelV x v→s.heap.IsSliceOf sl vl vu .none→IsPart vl lo→IsPart vu hi→r x lo hi H Q →
   ∃ T id,typeLookup (.type T) "__getitem__" = pure (some (.builtin id))∧s.TypeIs v T∧wpAny (model X.prog X.w) X.A (getItem v (.ref sl)) (EP X pins σ Q) X.xe s
def tSl (r:V→Option Int→Option Int→Hp→VK→Prop) (te:TE) (tl th:TO):TE:=fun σ H Q=>te σ H fun x H1=>tl σ H1 fun l H2=>th σ H2 fun u H3=>r x l u H3 Q
theorem qI {r:V→Option Int→Option Int→Hp→VK→Prop} (hr:Dk X r) (he:PE X e te) (hl:PO X lo tl) (hu:PO X hi th):PE X (.Subscript e (.Slice lo hi none p2) pos) (tSl r te tl th):=by
 intro pins s σ H Q I h
 refine Subscript_ (fM (he pins s σ H _ I h) fun v s1 zq=>?_)
 obtain⟨x,H1,I1,r1,q1⟩:=zq
 refine wpAny_Slice (fM (hl pins s1 σ H1 _ I1 q1) fun vl s2 ⟨l,H2,I2,pl,q2⟩=>fM (hu pins s2 σ H2 _ I2 q2) fun vu s3 zq=>?_)
 obtain⟨u,H3,I3,pu,q3⟩:=zq
 rw [evalPart_none]
 refine wpAny_pure ?_
 have I4:Inv X pins σ H3 { s3 with heap:=s3.heap.push { cls:=.type "slice",data:=.fields #[vl,vu,.none] } }:=I3.kept (t':=s3.toks) fun b ob q=>Heap.get?_push_of_some _ q
 obtain⟨T,id,hT,ht,hg⟩:=hr pins { s3 with heap:=s3.heap.push { cls:=.type "slice",data:=.fields #[vl,vu,.none] } } σ H3 x v vl vu l u s3.heap.objs.size Q I4 r1 (Heap.IsSliceOf.new ..) pl pu q3
 show wpAny (model X.prog X.w) X.A (subscriptTail e (.Slice lo hi none p2) v (.ref s3.heap.objs.size)) (EP X pins σ Q) X.xe { s3 with heap:=s3.heap.push { cls:=.type "slice",data:=.fields #[vl,vu,.none] } }
 exact tail_any (ops:=[.ref s3.heap.objs.size,v]) ht hT hg (by with_unfolding_all rfl)
def Qd (xs:List V) (lo hi:Option Int):List V:=(xs.drop (HT.wz xs.length 0 lo)).take (HT.wz xs.length xs.length hi - HT.wz xs.length 0 lo)
theorem Qe (xs:List V) (lo hi:Option Int):(Qd xs lo hi).length≤xs.length:=by
 unfold Qd
 rw [List.length_take,List.length_drop]
 omega
def avn (K:PySem.W.Frag):R2:=fun x y H Q=>∃ a b ns ms,x=.ref a∧y=.ref b∧jJ K H a (ns.map V.int)∧jJ K H b (ms.map V.int)∧Q (.bl (HT.lexLt ns ms)) H
theorem X7 (hu:X.A.units<cLine):jZ X (compareOp .Lt) (avn X.K):=by
 intro pins s σ H x y v u Q I rx ry h
 obtain⟨a,b,ns,ms,rfl,rfl,ha,hb,q⟩:=h
 cases rx
 cases ry
 obtain⟨its,r1,p1,_⟩:=I.tuple ha
 obtain⟨its2,r2,p2,_⟩:=I.tuple hb
 have i1:IntsAre its.toArray.toList ns:=intsAre_of r1
 have i2:IntsAre its2.toArray.toList ms:=intsAre_of r2
 exact HT.Sg p1 p2 i1 i2 hu ⟨.bl (HT.lexLt ns ms),H,I,rfl,q⟩
end
end L2
namespace L2
open PySem PySem.Spec PyProof.Rows
def ixN (n:Nat) (i:Int):Option Nat:=if 0≤i then (if i<n then some i.toNat else none) else if -(n:Int)≤i then some (i+n).toNat else none
def atI {α:Type} (xs:List α) (i:Int):Option α:=(ixN xs.length i).bind fun j=>xs[j]?
theorem abH {n:Nat}{i:Int}{j:Nat} (h:ixN n i=some j):seqIndex? i n=some j∧j<n∧-(n:Int)≤i∧i<n:=by
 unfold ixN at h
 by_cases h0:0≤i
 · rw [if_pos h0] at h
   by_cases h1:i<n
   · rw [if_pos h1] at h
     have e:i.toNat=j:=Option.some.inj h
     exact⟨by rw [seqIndex_of h0 h1,e],by omega,by omega,h1⟩
   · rw [if_neg h1] at h;cases h
 · rw [if_neg h0] at h
   by_cases h1:-(n:Int)≤i
   · rw [if_pos h1] at h
     have e:(i+n).toNat=j:=Option.some.inj h
     exact⟨by rw [seqIndex_neg (by omega) h1,e],by omega,h1,by omega⟩
   · rw [if_neg h1] at h;cases h
theorem Nv {α:Type}{xs:List α}{i:Int}{v:α} (h:atI xs i=some v):∃ j,seqIndex? i xs.length=some j∧xs[j]? = some v∧j<xs.length∧-(xs.length:Int)≤i∧i<xs.length:=by
 unfold atI at h
 cases e:ixN xs.length i with
 | none=>rw [e] at h;cases h
 | some j =>
   rw [e] at h
   obtain⟨h1,h2,h3,h4⟩:=abH e
   exact⟨j,h1,h,h2,h3,h4⟩
theorem xE {α:Type}{xs:List α}{j:Nat}{v:α} (h:xs[j]? = some v):atI xs (j:Int)=some v:=by
 have hj:j<xs.length:=(List.getElem?_eq_some_iff.mp h).1
 have e:ixN xs.length (j:Int)=some j:=by
   unfold ixN
   rw [if_pos (by omega),if_pos (by omega)];simp
 unfold atI;rw [e];exact h
def abI (b:Expr):Prop:=∀ o i,subscripted b false o i=operate [o,i] (getItem o i)
def Bp (X:Cx) (r:R2):Prop :=
 ∀ (value slice:Expr) (pins:List (Addr × Obj)) (s:Shared) (σ:St) (H:Hp) (x y:V) (v u:Value) (Q:VK),Inv X pins σ H s→RelV x v→RelV y u→r x y H Q →
   subscripted slice false v u=operate [v,u] (getItem v u)→wpAny (model X.prog X.w) X.A (subscriptTail value slice v u) (EP X pins σ Q) X.xe s
def MtR (X:Cx) (id:String) (r:V→List V→Hp→VK→Prop):Prop :=
 ∀ (pins:List (Addr × Obj)) (s:Shared) (σ:St) (H:Hp) (x:V) (xs:List V) (v:Value) (us:List Value) (Q:VK),Inv X pins σ H s→RelV x v→Vals xs us→r x xs H Q →
   wpAny (model X.prog X.w) X.A (call (.builtin id) (v::us)) (EP X pins σ Q) X.xe s
section
variable {X:Cx}{a b:Expr}{ta tb:TE}{pos:Pos}
theorem xX {r:R2} (hr:Bp X r) (ha:PE X a ta) (hb:PE X b tb) (hs:abI b):PE X (.Subscript a b pos) (tOp r ta tb):=by
 intro pins s σ H Q I h
 exact Subscript_ (aea ha hb I h fun v u s2 x y H2 I2 rx ry q=>hr a b pins s2 σ H2 x y v u Q I2 rx ry q (hs _ _))
def avo (K:PySem.W.Frag):R2:=fun x y H Q=>∃ p xs i v,x=.ref p∧y=.int i∧cB K H p xs∧atI xs i=some v∧Q v H
def avp (K:PySem.W.Frag):R2:=fun x y H Q=>∃ p xs i v,x=.ref p∧y=.int i∧jJ K H p xs∧atI xs i=some v∧Q v H
def avq:R2:=fun x y H Q=>∃ z i c,x=.str z∧y=.int i∧z.length≤sizeLine∧atI z.cps.toList i=some c∧Q (.str ⟨#[c]⟩) H
theorem xR:Bp X (avo X.K):=by
 intro value slice pins s σ H x y v u Q I rx ry h hs
 obtain⟨p,xs,i,z,rfl,rfl,hq,he,q⟩:=h
 cases rx
 obtain⟨t,rfl⟩:=ry
 obtain⟨its,r,pl,hz⟩:=I.list hq
 obtain⟨j,h1,h2,h3,h4,h5⟩:=Nv he
 obtain⟨w,ew,vU⟩:=r.get h2
 have hl:=r.length
 have hn:=Hg
 have fin:EP X pins σ Q w s:=⟨z,H,I,vU,q⟩
 by_cases h0:0≤i
 · have hj:i.toNat=j:=by
     rw [seqIndex_of h0 h5] at h1
     exact Option.some.inj h1
   exact item_listR pl.isList h0 (by omega) (by rw [hj];simpa using ew) fin hs
 · have hj:(i+(its.toArray.size:Int)).toNat=j:=by
     rw [seqIndex_neg (by omega) h4] at h1
     rw [List.size_toArray,← hl]
     exact Option.some.inj h1
   exact subscriptTail_builtinR (x:=w) pl.isList.typeIs slot_list_getitem.lookup
     (wpAny_getItem_list_neg (Q:=fun r s'=>r=w∧EP X pins σ Q r s') pl.isList (by omega) (by rw [List.size_toArray] <;> omega) (by omega) (by rw [hj];simpa using ew) ⟨rfl,fin⟩) hs
theorem Hk:Bp X (avp X.K):=by
 intro value slice pins s σ H x y v u Q I rx ry h hs
 obtain⟨p,xs,i,z,rfl,rfl,hq,he,q⟩:=h
 cases rx
 obtain⟨t,rfl⟩:=ry
 obtain⟨its,r,pl,hz⟩:=I.tuple hq
 obtain⟨j,h1,h2,h3,h4,h5⟩:=Nv he
 obtain⟨w,ew,vU⟩:=r.get h2
 have hl:=r.length
 have hn:=Hg
 have fin:EP X pins σ Q w s:=⟨z,H,I,vU,q⟩
 exact subscriptTail_builtinR (x:=w) pl.typeIs slot_tuple_getitem.lookup
   (getItem_tuple (j:=j) (Q:=fun r s'=>r=w∧EP X pins σ Q r s') pl (by omega) (by omega) (by rw [List.size_toArray,← hl];exact h1) (by simpa using ew) ⟨rfl,fin⟩) hs
theorem X8:Bp X avq:=by
 intro value slice pins s σ H x y v u Q I rx ry h hs
 obtain⟨z,i,c,rfl,rfl,hz,he,q⟩:=h
 obtain⟨t,rfl⟩:=rx
 obtain⟨t',rfl⟩:=ry
 obtain⟨j,h1,h2,h3,h4,h5⟩:=Nv he
 have hl:z.cps.toList.length=z.length:=by simp [Str.length]
 rw [hl] at h1 h4 h5
 have hn:=Hg
 exact tail_any (typeIs_str s z t) slot_str_getitem.lookup (getItem_str (c:=c) (by
   have e1:decide (i < -(2 ^ 63:Int))=false:=decide_eq_false (by omega)
   have e2:decide (i ≥ 2 ^ 63)=false:=decide_eq_false (by omega)
   rw [e1,e2,Bool.or_false]) (by rw [h1];simpa using h2) ⟨.str ⟨#[c]⟩,H,I.tok _,⟨_,rfl⟩,q⟩) hs
theorem Inv.lst {pins:List (Addr × Obj)}{σ:St}{H:Hp}{s:Shared}{p:Addr}{xs:List V} (I:Inv X pins σ H s) (h:H p=some (.lst xs)) :
   ∃ (its:List Value) (n:Nat),Vals xs its∧s.heap.get? p=some { cls:=.type "list",data:=.seq its.toArray n }∧xs.length≤sizeLine:=by
 obtain⟨z,its,n,r,e⟩:=I.hok p _ h
 exact⟨its,n,r,e,z⟩
theorem Nx (lo hi:Option Int) (n:Nat):(sliceBounds lo hi none n).1=((HT.wz n 0 lo:Nat):Int)∧(sliceBounds lo hi none n).2.1=((HT.wz n n hi:Nat):Int)∧(sliceBounds lo hi none n).2.2=1:=by
 refine⟨?_,?_,rfl⟩
 · cases lo with
   | none=>simp [sliceBounds,HT.wz]
   | some i =>
     simp only [sliceBounds,HT.wz,Option.getD_none,show (1:Int) > 0 by decide,if_true]
     by_cases h:i<0
     · simp only [h,if_true] <;> omega
     · simp only [h,if_false] <;> omega
 · cases hi with
   | none=>simp [sliceBounds,HT.wz]
   | some i =>
     simp only [sliceBounds,HT.wz,Option.getD_none,show (1:Int) > 0 by decide,if_true]
     by_cases h:i<0
     · simp only [h,if_true] <;> omega
     · simp only [h,if_false] <;> omega
theorem J4 (its:List Value) (lo hi:Option Int):slicePick its.toArray lo hi none=((its.drop (HT.wz its.length 0 lo)).take (HT.wz its.length its.length hi - HT.wz its.length 0 lo)).toArray:=by
 obtain⟨h1,h2,h3⟩:=Nx lo hi its.toArray.size
 unfold slicePick
 rw [h1,h2,h3]
 simp only [sliceRange_one,pick_run,List.size_toArray] <;> rfl
def avr (K:PySem.W.Frag):V→Option Int→Option Int→Hp→VK→Prop:=fun x lo hi H Q=>∃ a xs,x=.ref a∧cB K H a xs∧∀ p,H p=none→Q (.ref p) (upd H p (.lst (Qd xs lo hi)))
theorem Gx:Dk X (avr X.K):=by
 intro pins s σ H x v vl vu lo hi sl Q I rx hs pl pu h
 obtain⟨a,xs,rfl,hx,q⟩:=h
 cases rx
 obtain⟨its,r,ht,hz⟩:=I.list hx
 have hlen:=r.length
 refine⟨"list",_,slot_list_getitem.lookup,ht.isList.typeIs,?_⟩
 refine wpAny_getItem_list_slice ht.isList hs pl pu .none (by simp) ?_ (by rw [List.size_toArray] <;> omega)
 rw [J4,← hlen]
 refine⟨.ref s.heap.objs.size,_,I.laid (t':=s.toks) (o:=.lst (Qd xs lo hi)) (fun b ob q=>Heap.get?_push_of_some _ q) (Nat.le_refl _) ?_,rfl,q _ (I.hok.fresh (Nat.le_refl _))⟩
 exact⟨Nat.le_trans (Qe xs lo hi) hz,_,0,(r.drop (HT.wz xs.length 0 lo)).take (HT.wz xs.length xs.length hi - HT.wz xs.length 0 lo),Heap.get?_push_size _ rfl⟩
def iV:V→Bool
 | .non=>true
 | .bl _=>true
 | .int _=>true
 | .str _=>true
 | _=>false
def RV:V→V→Bool
 | .non,.non=>true
 | .bl a,.bl b=>a == b
 | .bl a,.int b=>(if a then 1 else 0) == b
 | .int a,.bl b=>a == (if b then 1 else 0)
 | .int a,.int b=>a == b
 | .str a,.str b=>a == b
 | _,_=>false
theorem Yb {A:Around}{s:Shared}{y x:V}{u v:Value} (ry:RelV y u) (rx:RelV x v) (fy:iV y=true) (fx:iV x=true):SeqAt.EqAt A s u v (RV y x):=by
 cases y with
 | non =>
   cases ry
   cases x with
   | non=>cases rx;exact SeqAt.EqAt.same _
   | bl b=>cases rx;exact SeqAt.EqAt.none_bool b
   | int b=>obtain⟨t,rfl⟩:=rx;exact SeqAt.EqAt.none_int b t
   | str b=>obtain⟨t,rfl⟩:=rx;exact SeqAt.EqAt.none_str b t
   | _=>exact absurd (show false=true from fx) Bool.false_ne_true
 | bl a =>
   cases ry
   cases x with
   | non=>cases rx;exact SeqAt.EqAt.bool_none a
   | bl b=>cases rx;exact SeqAt.EqAt.bool_bool a b
   | int b=>obtain⟨t,rfl⟩:=rx;exact SeqAt.EqAt.bool_int a b t
   | str b=>obtain⟨t,rfl⟩:=rx;exact SeqAt.EqAt.bool_str a b t
   | _=>exact absurd (show false=true from fx) Bool.false_ne_true
 | int a =>
   obtain⟨t',rfl⟩:=ry
   cases x with
   | non=>cases rx;exact SeqAt.EqAt.int_none a t'
   | bl b=>cases rx;exact SeqAt.EqAt.int_bool a t' b
   | int b=>obtain⟨t,rfl⟩:=rx;exact SeqAt.EqAt.int_int a t' b t
   | str b=>obtain⟨t,rfl⟩:=rx;exact SeqAt.EqAt.int_str a t' b t
   | _=>exact absurd (show false=true from fx) Bool.false_ne_true
 | str a =>
   obtain⟨t',rfl⟩:=ry
   cases x with
   | non=>cases rx;exact SeqAt.EqAt.str_none a t'
   | bl b=>cases rx;exact SeqAt.EqAt.str_bool a t' b
   | int b=>obtain⟨t,rfl⟩:=rx;exact SeqAt.EqAt.str_int a t' b t
   | str b=>obtain⟨t,rfl⟩:=rx;exact SeqAt.EqAt.str_str a t' b t
   | _=>exact absurd (show false=true from fx) Bool.false_ne_true
 | _=>exact absurd (show false=true from fy) Bool.false_ne_true
def Qf (x:V) (u:Value):Bool:=match u with
 | .none=>RV .non x
 | .bool b=>RV (.bl b) x
 | .int i _=>RV (.int i) x
 | .str z _=>RV (.str z) x
 | _=>false
theorem Sq {x y:V}{u:Value} (r:RelV y u) (f:iV y=true):Qf x u=RV y x:=by
 cases y with
 | non=>cases r;rfl
 | bl b=>cases r;rfl
 | int i=>obtain⟨t,rfl⟩:=r;rfl
 | str z=>obtain⟨t,rfl⟩:=r;rfl
 | _=>exact absurd (show false=true from f) Bool.false_ne_true
theorem zj {x:V}:∀ {xs:List V}{us:List Value},Vals xs us→xs.all iV=true→us.any (Qf x)=xs.any fun y=>RV y x
 | _,_,.nil,_=>rfl
 | y::xs,u::us,.cons r t,f=>by
   rw [List.all_cons,Bool.and_eq_true] at f
   rw [List.any_cons,List.any_cons,Sq r f.1,zj t f.2]
theorem qJ {A:Around}{s:Shared}{x:V}{v:Value} (rx:RelV x v) (fx:iV x=true):∀ {xs:List V}{us:List Value},Vals xs us→xs.all iV=true→∀ u∈us,SeqAt.EqAt A s u v (Qf x u)
 | _,_,.nil,_=>fun u hu=>by cases hu
 | y::xs,u::us,.cons r t,f=>fun u' hu=>by
   rw [List.all_cons,Bool.and_eq_true] at f
   rcases List.mem_cons.mp hu with rfl | hu
   · rw [Sq r f.1];exact Yb r rx f.1 fx
   · exact qJ rx fx t f.2 u' hu
def inV (x:V) (xs:List V):Bool:=xs.any fun y=>RV y x
def rIn (K:PySem.W.Frag) (neg:Bool):R2:=fun x y H Q=>∃ p xs,y=.ref p∧(cB K H p xs∨jJ K H p xs)∧iV x=true∧xs.all iV=true∧Q (.bl (if neg then !inV x xs else inV x xs)) H
theorem nG:jZ X (compareOp .In) (rIn X.K false):=by
 intro pins s σ H x y v u Q I rx ry h
 obtain⟨p,xs,rfl,hq,fx,fs,q⟩:=h
 cases ry
 rcases hq with hq | hq
 · obtain⟨its,r,pl,hz⟩:=I.list hq
   refine SeqAt.in_listAt (Qf x) pl.isList (fun w hw=>qJ rx fx r fs w (by simpa using hw)) ⟨.bl _,H,I,rfl,?_⟩
   rw [show its.toArray.any (Qf x)=its.any (Qf x) by simp,zj r fs]
   exact q
 · obtain⟨its,r,pl,hz⟩:=I.tuple hq
   refine SeqAt.in_tupleAt (Qf x) pl (fun w hw=>qJ rx fx r fs w (by simpa using hw)) ⟨.bl _,H,I,rfl,?_⟩
   rw [show its.toArray.any (Qf x)=its.any (Qf x) by simp,zj r fs]
   exact q
theorem Ny:jZ X (compareOp .NotIn) (rIn X.K true):=by
 intro pins s σ H x y v u Q I rx ry h
 obtain⟨p,xs,rfl,hq,fx,fs,q⟩:=h
 cases ry
 rcases hq with hq | hq
 · obtain⟨its,r,pl,hz⟩:=I.list hq
   refine SeqAt.notIn_listAt (Qf x) pl.isList (fun w hw=>qJ rx fx r fs w (by simpa using hw)) ⟨.bl _,H,I,rfl,?_⟩
   rw [show its.toArray.any (Qf x)=its.any (Qf x) by simp,zj r fs]
   exact q
 · obtain⟨its,r,pl,hz⟩:=I.tuple hq
   refine SeqAt.notIn_tupleAt (Qf x) pl (fun w hw=>qJ rx fx r fs w (by simpa using hw)) ⟨.bl _,H,I,rfl,?_⟩
   rw [show its.toArray.any (Qf x)=its.any (Qf x) by simp,zj r fs]
   exact q
theorem xB:d8 X (.builtin "len") (fun xs H Q=>∃ p ys,xs=[.ref p]∧(cB X.K H p ys∨jJ X.K H p ys)∧Q (.int ys.length) H):=by
 intro pins s σ H xs us Q I r h
 obtain⟨p,ys,rfl,hq,q⟩:=h
 obtain⟨u,rfl,rx⟩:=vals1 r
 cases rx
 have hn:=Hg
 rcases hq with hq | hq
 · obtain⟨its,r',pl,hz⟩:=I.list hq
   have hlen:=r'.length
   exact Calls.call_len_list pl.isList (by simp only [List.size_toArray] <;> omega) ⟨.int ys.length,H,I.tok _,⟨s.toks+1,by rw [List.size_toArray,hlen]⟩,q⟩
 · obtain⟨its,r',pl,hz⟩:=I.tuple hq
   have hlen:=r'.length
   exact len_tuple pl (by simp only [List.size_toArray] <;> omega) ⟨.int ys.length,H,I.tok _,⟨s.toks+1,by rw [List.size_toArray,hlen]⟩,q⟩
theorem xV:d8 X (.type "list") (fun xs H Q=>∃ p ys,xs=[.ref p]∧(cB X.K H p ys∨jJ X.K H p ys)∧∀ l,H l=none→Q (.ref l) (upd H l (.lst ys))):=by
 intro pins s σ H xs us Q I r h
 obtain⟨p,ys,rfl,hq,q⟩:=h
 obtain⟨u,rfl,rx⟩:=vals1 r
 cases rx
 have fin:∀ (its:List Value),Vals ys its→ys.length≤sizeLine→∀ (h':Heap) (c':Nat),(∀ b o',s.heap.get? b=some o'→h'.get? b=some o') →
     h'.get? s.heap.objs.size=some { cls:=.type "list",dict:=none,data:=.seq its.toArray c',slots:=#[] }→EP X pins σ Q (.ref s.heap.objs.size) { s with heap:=h' }:=fun its r' hz h' c' kp e =>
   ⟨.ref s.heap.objs.size,_,I.laid (t':=s.toks) kp (Nat.le_refl _) (show bw X.prog X.w _ h' _ (.lst ys) from ⟨hz,its,c',r',e⟩),rfl,q _ (I.hok.fresh (Nat.le_refl _))⟩
 rcases hq with hq | hq
 · obtain⟨its,r',pl,hz⟩:=I.list hq
   have hlen:=r'.length
   obtain⟨o,ho,hc,n,hd⟩:=pl.isList
   exact call_list_seq p (.inl rfl) ho hc hd (fun h' c' kp e=>fin its r' hz h' c' kp e) (by simp only [List.size_toArray] <;> omega)
 · obtain⟨its,r',pl,hz⟩:=I.tuple hq
   have hlen:=r'.length
   obtain⟨o,ho,hc,n,hd⟩:=pl
   exact call_list_seq p (.inr rfl) ho hc hd (fun h' c' kp e=>fin its r' hz h' c' kp e) (by simp only [List.size_toArray] <;> omega)
def tyV (K:PySem.W.Frag) (T:String) (x:V) (H:Hp):Prop:=match x with
 | .str _=>T="str"
 | .int _=>T="int"
 | .ref p=>(T="list"∧∃ xs,cB K H p xs)∨(T="tuple"∧∃ o,K.lookup p=some o∧o.cls=.type "tuple"∧o.dict=none) ∨
     (T="dict"∧((∃ kvs,H p=some (.dK kvs))∨∃ kvs,H p=some (.dT kvs)))∨(T="set"∧∃ S n,H p=some (.set S n))
 | _=>False
theorem aee {pins:List (Addr × Obj)}{σ:St}{H:Hp}{s:Shared}{T:String}{x:V}{v:Value} (I:Inv X pins σ H s) (r:RelV x v) (ty:tyV X.K T x H) :
   s.TypeIs v T∧∀ a,v=.ref a→∃ ob,s.heap.get? a=some ob∧ob.dict=none:=by
 cases x with
 | str z =>
   obtain⟨t,rfl⟩:=r
   cases (show T="str" from ty)
   exact⟨typeIs_str s z t,fun _ e=>nomatch e⟩
 | int i =>
   obtain⟨t,rfl⟩:=r
   cases (show T="int" from ty)
   exact⟨typeIs_int s i t,fun _ e=>nomatch e⟩
 | ref p =>
   cases r
   rcases ty with ⟨rfl,xs,hq⟩ | ⟨rfl,o,hk,hc,hd⟩ | ⟨rfl,hk⟩ | ⟨rfl,S,n,hk⟩
   · obtain⟨its,_,pl,_⟩:=I.list hq
     refine⟨pl.isList.typeIs,fun a e=>?_⟩
     cases e
     obtain⟨o,n,e,c,hd,_⟩:=pl
     exact⟨o,e,hd⟩
   · refine⟨⟨o,I.ug p o hk,hc⟩,fun a e=>?_⟩
     cases e
     exact⟨o,I.ug _ o hk,hd⟩
   · have z:∃ o,s.heap.get? p=some o∧o.ExactDict:=by
       rcases hk with ⟨kvs,hk⟩ | ⟨kvs,hk⟩
       · obtain⟨_,_,_,_,o,_,_,e,ex,_⟩:=I.hok p _ hk
         exact⟨o,e,ex⟩
       · obtain⟨_,_,_,_,o,_,_,e,ex,_⟩:=I.hok p _ hk
         exact⟨o,e,ex⟩
     obtain⟨o,e,ex⟩:=z
     refine⟨⟨o,e,ex.1⟩,fun a e2=>?_⟩
     cases e2
     exact⟨o,e,ex.2.1⟩
   · obtain⟨o,_,_,_,e,ex,_⟩:=I.hok p _ hk
     refine⟨⟨o,e,ex.1⟩,fun a e2=>?_⟩
     cases e2
     exact⟨o,e,ex.2.1⟩
 | _=>exact False.elim ty
def tBM (K:PySem.W.Frag) (T:String) (r:V→List V→Hp→VK→Prop) (to:TE) (t:TA):TE:=fun σ H Q=>to σ H fun x H1=>tyV K T x H1∧t σ H1 fun xs H2=>r x xs H2 Q
variable {o e:Expr}{es:List Expr}{to:TE}{t:TA}{name:Str}{apos cpos:Pos}{T id:String}{r:V→List V→Hp→VK→Prop}
theorem uw (pa:PlainAttrs T) (slot:Slot T name id) (hty:typeOf (.builtin id)=pure (.type "method_descriptor")) (hm:MtR X id r) (ho:PE X o to) (ha:PA X (e::es) t)
   (hbase:attributeBase o name X.env (eval o X.env)=eval o X.env:=by rfl)
   (hfew:((backTo cpos (starEach (e::es) X.env)).all (fun x=>!x.1) && (backToKw cpos (keywordEach [] X.env)).all (fun x=>x.1.isSome)
     && decide ((e::es).length+([]:List Keyword).length+(if ([]:List Keyword).isEmpty then 0 else 1)<30))=true:=by rfl)
   (hline:(apos.endLine == cpos.line)=true:=by rfl) (hs:starEach (e::es) X.env=(false,eval e X.env)::starEach es X.env:=by rfl) (hplain:(backTo cpos (starEach es X.env)).any (·.1)=false:=by rfl) :
   PE X (.Call (.Attribute o name apos) (e::es) [] cpos) (tBM X.K T r to t):=by
 intro pins s σ H Q I h
 refine wpAny_Call_method_late hbase hfew hline rfl (fM (ho pins s σ H _ I h) fun v s1 zq=>?_)
 obtain⟨x,H1,I1,r1,ty,q1⟩:=zq
 obtain⟨h1,h2⟩:=aee I1 r1 ty
 refine⟨T,id,pa,slot,hty,h1,h2,?_⟩
 have hA:=ha cpos pins s1 σ H1 _ I1 q1
 rw [hs] at hA ⊢
 refine Calls.callWith_builtin (by show (false || (backTo cpos (starEach es X.env)).any (·.1))=false;rw [hplain] <;> rfl) (Calls.evalArgs_plain ?_)
 exact fM hA fun us s2 ⟨vs,H2,I2,r2,q2⟩=>hm pins s2 σ H2 x vs v us Q I2 r1 r2 q2
end
end L2
namespace L2
open PySem PySem.Spec PyProof.Rows
def MtM (X:Cx) (id:String) (r:V→List V→Hp→VK→Prop):Prop :=
 ∀ (pins:List (Addr × Obj)) (s:Shared) (σ:St) (H:Hp) (x:V) (xs:List V) (v:Value) (us:List Value) (Q:VK),Inv X pins σ H s→RelV x v→Vals xs us→r x xs H Q →
   wpAny (model X.prog X.w) X.A (call (.builtin id) (v::us)) (EP X pins σ Q) X.xe s
theorem Vals.one:∀ {x:V}{us:List Value},Vals [x] us→∃ u,us=[u]∧RelV x u
 | _,_,.cons r .nil=>⟨_,rfl,r⟩
theorem Vals.zero:∀ {us:List Value},Vals [] us→us=[]
 | _,.nil=>rfl
section
variable {X:Cx}{pins:List (Addr × Obj)}{σ:St}{H:Hp}{s:Shared}{l b:Addr}{xs ys zs:List V}
theorem Inv.ain {its its':List Value}{n:Nat}{f:Array Value→Array Value}{t':Nat} (I:Inv X pins σ H s) (hH:H l=some (.lst xs))
   (e:s.heap.get? l=some { cls:=.type "list",data:=.seq its.toArray n }) (hf:f its.toArray=its'.toArray) (hv:Vals ys its') (hz:ys.length≤sizeLine) :
   Inv X pins σ (upd H l (.lst ys)) { s with heap:=s.heap.update l (Obj.mapSeq f),toks:=t' }:=by
 have q:=PySem.IsL.update e f
 rw [hf] at q
 refine I.write (x:=l) (e:=l) (by rw [hH];exact trivial) (.inl rfl) (fun b' u hb hu=>(Heap.get?_update_other s.heap (Obj.mapSeq f) (Ne.symm hb)).trans hu) ⟨_,q⟩ ?_
 exact⟨hz,its',_,hv,q⟩
theorem Inv.avs {its:List Value}{t':Nat} (I:Inv X pins σ H s) (hv:Vals ys its) (hz:ys.length≤sizeLine) :
   Inv X pins σ (upd H s.heap.objs.size (.lst ys)) { s with heap:=s.heap.push { cls:=.type "list",data:=.seq its.toArray },toks:=t' } :=
 I.laid (fun _ _ q=>Heap.get?_push_of_some _ q) (Nat.le_refl _) ⟨hz,its,0,hv,Heap.get?_push_size _ rfl⟩
theorem Inv.fresh (I:Inv X pins σ H s):H s.heap.objs.size=none:=I.hok.fresh (Nat.le_refl _)
theorem Inv.Yc (I:Inv X pins σ H s) (hH:H l=some (.lst xs)):xs.length≤sizeLine∧∃ (its:List Value) (n:Nat),Vals xs its∧xs.length=its.length∧s.heap.get? l=some { cls:=.type "list",data:=.seq its.toArray n }:=by
 obtain⟨z,its,n,r,e⟩:=I.hok l _ hH
 exact⟨z,its,n,r,r.length,e⟩
theorem Yd {n:Nat} (h:n≤sizeLine):Builtin.List.listTooLong n=false:=by
 unfold Builtin.List.listTooLong
 exact decide_eq_false (by omega)
end
section
variable {X:Cx}
def abJ:V→List V→Hp→VK→Prop:=fun x vs H Q=>∃ l xs y,x=.ref l∧vs=[y]∧H l=some (.lst xs)∧xs.length<sizeLine∧Q .non (upd H l (.lst (xs++[y])))
theorem nH:MtM X "list.append" abJ:=by
 intro pins s σ H x vs v us Q I rx rv h
 obtain⟨l,xs,y,rfl,rfl,hH,hz,q⟩:=h
 cases rx
 obtain⟨u,rfl,ru⟩:=rv.one
 obtain⟨z,its,n,r,hl,e⟩:=I.Yc hH
 refine call_meets F.slot_list_append ⟨_,e,rfl⟩ F.entry_list_append (F.args_list_append_2 _ _) (PySem.list_append l its.toArray n u (by rw [List.size_toArray];omega)) ⟨e,?_⟩
 refine⟨.non,_,I.ain (its':=its++[u]) hH e (by simp) (r.append (.cons ru .nil)) ?_,rfl,q⟩
 rw [List.length_append,List.length_singleton]
 omega
def abK:V→List V→Hp→VK→Prop:=fun x vs H Q=>∃ l b xs zs,x=.ref l∧vs=[.ref b]∧H l=some (.lst xs)∧H b=some (.lst zs)∧xs.length+zs.length≤sizeLine∧Q .non (upd H l (.lst (xs++zs)))
theorem V7:MtM X "list.extend" abK:=by
 intro pins s σ H x vs v us Q I rx rv h
 obtain⟨l,b,xs,zs,rfl,rfl,hH,hB,hz,q⟩:=h
 cases rx
 obtain⟨u,rfl,ru⟩:=rv.one
 cases ru
 obtain⟨z,its,n,r,hl,e⟩:=I.Yc hH
 obtain⟨z2,its2,n2,r2,hl2,e2⟩:=I.Yc hB
 have hsz:its.toArray.size+its2.toArray.size≤sizeLine:=by rw [List.size_toArray,List.size_toArray];omega
 have aio:¬ (!its.toArray.isEmpty && Builtin.List.listTooLong (its.toArray.size+its2.toArray.size))=true:=by
   rw [Yd hsz,Bool.and_false]
   exact Bool.false_ne_true
 refine call_meets F.slot_list_extend ⟨_,e,rfl⟩ F.entry_list_extend (F.args_list_extend_2 _ _)
   (AutoSeq1.list_extend_list_list_0 l its.toArray n b its2.toArray n2 aio (by rw [List.size_toArray];omega) (by omega)) ⟨e,e2,?_⟩
 refine⟨.non,_,I.ain (its':=its++its2) hH e (by simp) (r.append r2) ?_,rfl,q⟩
 rw [List.length_append]
 omega
def avt:R2:=fun x y H Q=>∃ l b xs zs,x=.ref l∧y=.ref b∧H l=some (.lst xs)∧H b=some (.lst zs)∧xs.length+zs.length≤sizeLine∧∀ p,H p=none→Q (.ref p) (upd H p (.lst (xs++zs)))
theorem rH:jZ X (binaryOp .Add) avt:=by
 intro pins s σ H x y v u Q I rx ry h
 obtain⟨l,b,xs,zs,rfl,rfl,hH,hB,hz,q⟩:=h
 cases rx
 cases ry
 obtain⟨z,its,n,r,hl,e⟩:=I.Yc hH
 obtain⟨z2,its2,n2,r2,hl2,e2⟩:=I.Yc hB
 refine PySem.P.add_list e e2 ?_ (by rw [List.size_toArray,List.size_toArray];omega)
 have ea:its.toArray++its2.toArray=(its++its2).toArray:=by simp
 rw [ea]
 exact⟨.ref _,_,I.avs (t':=s.toks) (r.append r2) (by rw [List.length_append];omega),rfl,q _ I.fresh⟩
end
section
variable {prog:Program}{w:World}{A:Around}{E:Value→Shared→Prop}{s:Shared}
end
section
variable {X:Cx}
end
end L2
namespace Att
open PySem PySem.W PySem.Calls PyProof.Rows
theorem Em {P:Params}{h:Heap}:∀ (ns:List Int) (vs:List Value),WellAll P h vs (ns.map WData.int)→IntsAre vs ns:=by
 intro ns
 induction ns with
 | nil =>
   intro vs w
   rw [List.map_nil] at w
   cases w
   exact .nil
 | cons n ns ih =>
   intro vs w
   rw [List.map_cons] at w
   cases w with
   | cons a b =>
     cases a
     exact .cons _ _ (ih _ b)
theorem V8 {l:OpenLaw}{n:Nat} (hn:l.most=some n) {P:Params}{h:Heap}{args:List WData}{vals:List Value}
   (hpre:l.row.toRowW.claim.pre args=true) (hwl:WellAll P h vals args) :
   ∃ a vs ns,vals=[Value.ref a]∧args=[WData.list (ns.map WData.int)]∧h.get? a=some { cls:=.type "list",data:=.seq vs.toArray }∧IntsAre vs ns∧ns.length≤n:=by
 have hsh:WShape.hasAll [] args [.list .int]=true:=(pre_splitW hpre).1
 have hc:l.pre.holds [] { args:=args } = true:=(pre_splitW hpre).2
 obtain⟨d,r,rfl,h1,h2⟩:=hasAllW_cons hsh
 obtain rfl:=hasAllW_nil h2
 obtain⟨xs,rfl,h3⟩:=hasW_list h1
 obtain⟨ns,rfl⟩:=items_int h3
 have hlen:ns.length≤n:=by
   unfold OpenLaw.pre at hc
   have h4:(WTm.not (.lt (.lit (.int (n:Int))) (.len (.arg 0)))).holds [] { args:=[.list (ns.map .int)] } = true:=by
     have h4:=(holds_andW hc).1
     rw [hn] at h4
     exact h4
   have h5:=condW_of h4 (w_not (w_lt w_lit (w_len_list (w_arg rfl))))
   rw [List.length_map] at h5
   refine Nat.le_of_not_lt fun q=>?_
   have q':(n:Int)<((ns.length:Nat):Int):=by omega
   first
     | (rw [decide_eq_true q'] at h5;exact absurd h5 (by decide))
     | (simp at h5;omega)
 cases hwl with
 | cons w1 w2 =>
   cases w2
   cases w1 with
   | list ho hall=>exact⟨_,_,ns,rfl,rfl,ho,Em ns _ hall,hlen⟩
theorem V9 (l:OpenLaw) (args:List WData):l.row.toRowW.claim.post args (.bool true) args=true :=
 postW_of (r:=l.row.toRowW) (X:=(true == true))
   (show WShape.has [] (.bool true) .bool=true by first | rfl | decide | simp [WShape.has,WShape.arms,WShape.armsAll])
   (show (WTm.eq .res (.lit (.bool true))).value [] { args:=args,res:=some (.bool true),after:=args } = some (.bool (true == true)) from w_eq_bool (w_res rfl) w_lit) rfl
section
variable {prog:Program}{w:World}{A:Around}{E:Value→Shared→Prop}{s:Shared}{K:Frag}
end
end Att
namespace L2
open PySem PySem.Spec PyProof.Rows
theorem Mp:∀ {vs:List Value}{ns:List Int},IntsAre vs ns→Vals (ns.map V.int) vs
 | _,_,.nil=>.nil
 | _,_,.cons n t h=>.cons ⟨t,rfl⟩ (Mp h)
def Only (H:Hp):Prop:=∀ b,H b=none∨∃ o xs,H b=some (.jG o (.lst xs))
theorem Ye {P:Program}{w:World}{K:PySem.W.Frag}{mg mb:Str→Option Value}{CX:Nr}{k:Nat}{fa a:Addr}{fd:FuncData}{x:Str}{sp:Sp}{s₁:Shared}{vs:List Value}{ns:List Int}
   (KX:K.In s₁.heap) (hns:s₁.heap.Ns mainGlobals mg) (hb:s₁.heap.Ns builtinsNs mb) (hbb:∀ x:Str,x≠"__name__"→mb x=bootBuiltins x) (hlim:s₁.heap.NoLimit) (hg:s₁.gens=#[])
   (ha:s₁.heap.get? a=some { cls:=.type "list",data:=.seq vs.toArray }) (hi:IntsAre vs ns) (hl:ns.length≤sizeLine) (hr:gK k callerA)
   (F:∀ base:Heap,K.In base→base.Ns mainGlobals mg→aN P w K mg base CX k fa fd [x] sp) (hbind:∀ (s:Shared) (u:Value),BindsTo s fd ⟨[u],[]⟩ [(x,u)])
   (hsp:∀ H:Hp,Only H→cB K H a (ns.map V.int)→sp [.ref a] H (fun v _=>v=.bl true) fun _ _ _=>False)
   (hCX:∀ H e s',CX [] H s₁ (fun _ _ _=>False) e s'→False) :
   codeAny (model P w) callerA (.call (.ref fa) ⟨[.ref a],[]⟩) (fun r s'=>r=.ok (.ret (.bool true))∧OldK s₁.heap s'.heap∧s'.os=s₁.os∧AllBare s'.gens) s₁:=by
 have rv:=Mp hi
 have lenV:=hi.length
 have core:∀ H:Hp,Only H→cB K H a (ns.map V.int)→uh P w H s₁.heap→(∀ b,H b≠none→b=a)→(H a≠none→K.lookup a=none) →
     codeAny (model P w) callerA (.call (.ref fa) ⟨[.ref a],[]⟩) (fun r s'=>r=.ok (.ret (.bool true))∧OldK s₁.heap s'.heap∧s'.os=s₁.os∧AllBare s'.gens) s₁:=by
   intro H hO hS hok hA hK
   have UL:∀ {b:Addr}{o:Obj},s₁.heap.get? b=some o→H b=none→(Nq s₁.heap H).get? b=some o:=fun e n=>Xr e n
   have noA:∀ {b:Addr}{o:Obj}{es:Array DictEntry}{ep:Nat},s₁.heap.get? b=some o→o.data=.dict es ep→H b=none:=fun {b o es ep} e d=>by
     cases q:H b with
     | none=>rfl
     | some u =>
       have e':b=a:=hA b (by rw [q];simp)
       subst e'
       rw [ha] at e;cases e
       have d':Data.seq vs.toArray _=Data.dict es ep:=d
       cases d'
   have nsK:∀ {b:Addr}{m:Str→Option Value},s₁.heap.Ns b m→(Nq s₁.heap H).Ns b m:=fun {b m} ⟨o,es,ep,e,d,r⟩=>⟨o,es,ep,UL e (noA e d),d,r⟩
   have hKb:K.In (Nq s₁.heap H):=fun b o e=>UL (KX b o e) (by
     cases q:H b with
     | none=>rfl
     | some u =>
       have e':b=a:=hA b (by rw [q];simp)
       subst e'
       rw [hK (by rw [q];simp)] at e;cases e)
   have hM:Mod K mg (Nq s₁.heap H):=⟨hKb,nsK hns,⟨mb,nsK hb,hbb⟩,let ⟨mc,h1,h2⟩:=hlim; ⟨mc,nsK h1,h2⟩⟩
   have e0:J1 P w K mg (Nq s₁.heap H) callerA [] s₁ H:=⟨rfl,hM,fun b o e=>abw e,Nat.le_of_eq (V0 _ _),trivial,fun b hb=>absurd (show b∈([]:List Addr) from hb) (by simp),hok,.of_eq hg⟩
   refine codeAny_mono ((F _ hKb (nsK hns)).run callerA [] s₁ H ⟨[.ref a],[]⟩ [.ref a] [.ref a] _ _ hr e0 (hbind s₁ (.ref a)) (.cons rfl .nil) (hsp H hO hS)) fun r s' h=>?_
   cases r with
   | error e=>exact (hCX H e s' h).elim
   | ok fl =>
     cases fl with
     | next=>exact False.elim h
     | brk=>exact False.elim h
     | cont=>exact False.elim h
     | ret u =>
       obtain⟨v,H',os,bare,un,hok',r',q⟩:=h
       have q':v=.bl true:=q
       subst q'
       obtain rfl:u=Value.bool true:=r'
       refine⟨rfl,OldK.of_keep fun b o e=>?_,os,bare⟩
       cases q:H b with
       | none=>exact un.keep b o e q (by intro z;exact absurd (show b∈([]:List Addr) from z) (by simp)) (by simp)
       | some u =>
         rcases hO b with z | ⟨ob,xs,z⟩
         · rw [q] at z;cases z
         · have z2:=un.j4 b ob _ z
           obtain⟨e1,_⟩:=hok b _ z
           obtain⟨e2,_⟩:=hok' b _ z2
           rw [e] at e1;cases e1
           exact e2
 cases hk:K.lookup a with
 | some o =>
   have e:=KX a o hk
   rw [ha] at e
   cases e
   refine core (fun _=>none) (fun _=>.inl rfl) (.inr ⟨_,vs.toArray,_,hk,rfl,rfl,rfl,by rw [List.size_toArray,lenV];exact hl,by simpa using rv⟩) (fun b u z=>by have z':(none:Option HO)=some u:=z;cases z') (fun b z=>absurd rfl z) fun z=>absurd rfl z
 | none =>
   refine core (fun b=>if b=a then some (.jG { cls:=.type "list",data:=.seq vs.toArray } (.lst (ns.map V.int))) else none) (fun b=>?_) (.inl (.inr ⟨{ cls:=.type "list",data:=.seq vs.toArray },if_pos rfl⟩)) (fun b u z=>?_) (fun b z=>?_) fun _=>hk
   · by_cases hb:b=a
     · exact .inr ⟨_,_,if_pos hb⟩
     · exact .inl (if_neg hb)
   · by_cases hb:b=a
     · have z':=(if_pos hb).symm.trans z
       cases z'
       subst hb
       exact⟨ha,by rw [List.length_map];exact hl,vs,_,rv,ha⟩
     · have z':=(if_neg hb).symm.trans z
       cases z'
   · by_cases hb:b=a
     · exact hb
     · exact absurd (if_neg hb) z
end L2
namespace L2
open PySem PySem.Spec PyProof.Rows
abbrev KOf {K:PySem.W.Frag}{h:Heap} (_:K.In h):PySem.W.Frag:=K
end L2
namespace L2
open PySem PySem.Spec PyProof.Rows
def inClass (s:Stmt) (j:Nat):Stmt:=match s with
 | .ClassDef _ _ _ body _ _ _ _ _ _ _=>body.getD j (.Pass ⟨0,0,0,0⟩)
 | _=>.Pass ⟨0,0,0,0⟩
def ak (s:Stmt):Arguments:=match s with
 | .FunctionDef _ a _ _ _ _ _ _ _ _=>a
 | _=>{ posonlyargs:=[],args:=[],vararg:=none,kwonlyargs:=[],kw_defaults:=[],kwarg:=none,defaults:=[] }
def aj (s:Stmt):List Stmt:=match s with
 | .FunctionDef _ _ b _ _ _ _ _ _ _=>b
 | _=>[]
def aa (s:Stmt):Scope:=match s with
 | .FunctionDef _ _ _ _ _ _ sc _ _ _=>sc
 | _=>{ kind:=.function,names:=[],isGenerator:=false,isCoroutine:=false }
abbrev dR:Nr:=fun _ _ _ _ _ _=>False
abbrev E0:XK:=fun _ _ _=>False
theorem zM {X:Cx}:Passes dR X E0:=fun _ _ _ _ _ _ _ h=>h.elim
structure iu (K:PySem.W.Frag) (x qual:Str) (st:Stmt) (f:Addr) (fd:FuncData):Prop where
 ex:∃ (oc:Value) (od:Option Addr) (kV doc pm:Value) (an:Option Addr) (cdv ct:Value) (osl:Array (Option Value)),
   fd=PySem.W.fnOf x qual (ak st) (aj st) (aa st) .none kV doc pm an cdv ct∧K.lookup f=some ⟨oc,od,.func fd,osl⟩∧PySem.W.codeIn K cdv qual=true
 kp:PySem.W.keepIn K (.ref f)=true
section
variable {P:Program}{w:World}{K:PySem.W.Frag}{mg:Str→Option Value}{base:Heap}
theorem iu.ok {x qual:Str}{st:Stmt}{f:Addr}{fd:FuncData}{N ps:List Str}{k:Nat}{sp:Sp} (F:iu K x qual st f fd) (S:au N ps (aa st)) (len:∀ vs H Q E,sp vs H Q E→vs.length=ps.length)
   (hbody:∀ (cdv:Value) (A:Around) (outer:List Env) (s:Shared) (H:Hp) (vs:List V) (Q:VK) (E:XK),gK k (A.deeper (envOfC qual (aa st) s.heap.objs.size f cdv))→sp vs H Q E →
     ∃ t,qG (eF dR P w K mg base N qual (aa st) f cdv A outer s H E).RT (aj st) t∧t { nx:=fun _ H'=>Q .non H',rt:=Q } (start N vs) H):aN P w K mg base dR (k+1) f fd ps sp:=by
 obtain⟨oc,od,kV,doc,pm,an,cdv,ct,osl,rfl,lk,hcd⟩:=F.ex
 refine UJ lk hcd S len fun A outer s H vs Q E hr hsp=>?_
 obtain⟨t,h,q⟩:=hbody cdv A outer s H vs Q E hr hsp
 exact⟨t,h.RT,q⟩
theorem iu.binds {x qual:Str}{st:Stmt}{f:Addr}{fd:FuncData}{ps:List Str} (F:iu K x qual st f fd)
   (h:∀ (kV doc pm:Value) (an:Option Addr) (cdv ct:Value) (us:List Value),us.length=ps.length→bindArgs (PySem.W.fnOf x qual (ak st) (aj st) (aa st) .none kV doc pm an cdv ct) ⟨us,[]⟩=pure (ps.zip us)):Binds K fd ps []:=by
 obtain⟨oc,od,kV,doc,pm,an,cdv,ct,osl,rfl,lk,hcd⟩:=F.ex
 exact .all (h kV doc pm an cdv ct)
theorem ao {x qual:Str}{st:Stmt}{f:Addr}{oc:Value}{od an:Option Addr}{osl:Array (Option Value)}{kV doc pm cdv ct:Value} (l:K.lookup f=some ⟨oc,od,.func (PySem.W.fnOf x qual (ak st) (aj st) (aa st) .none kV doc pm an cdv ct),osl⟩)
   (c:PySem.W.codeIn K cdv qual=true) (k:PySem.W.keepIn K (.ref f)=true):iu K x qual st f (PySem.W.fnOf x qual (ak st) (aj st) (aa st) .none kV doc pm an cdv ct):=⟨⟨oc,od,kV,doc,pm,an,cdv,ct,osl,rfl,l,c⟩,k⟩
end
theorem xD {A:Around}{k:Nat} (hr:gK k A):A.units+1<cLine:=Nat.lt_of_le_of_lt (Nat.add_le_add_left (by decide:1≤64) _) hr.units
section
variable {X:Cx}
theorem pv (i:Nat) {x:Str}{pos:Pos} (hN:X.N[i]? = some x:=by rfl) (hv:Vis X.env.scope x:=by first | exact Or.inl rfl | exact Or.inr (Or.inl rfl) | exact Or.inr (Or.inr rfl)) (hd:(x == ("__debug__":Str))=false:=by decide)
   (hcd:(x == ("__classdict__":Str))=false:=by decide):PE X (.Name x pos) (Xx i):=ad3 hN hv hd hcd
end
theorem bD {A B:Prop} (h:B):if false=true then A else B:=by
 rw [if_neg Bool.false_ne_true]
 exact h
theorem cJ {A B:Prop} (h:A):if true=true then A else B:=by
 rw [if_pos rfl]
 exact h
theorem jY {c A B:Prop} [Decidable c] (h1:c→A) (h2:¬ c→B):if c then A else B:=by
 by_cases h:c
 · rw [if_pos h]
   exact h1 h
 · rw [if_neg h]
   exact h2 h
def az (H H':Hp):Prop:=∀ b o,H b=some o→H' b=some o
theorem az.refl (H:Hp):az H H:=fun _ _ h=>h
theorem az.trans {H H1 H2:Hp} (a:az H H1) (b:az H1 H2):az H H2:=fun c o h=>b c o (a c o h)
theorem az.free {H H':Hp} (e:az H H') {l:Addr} (h:H' l=Option.none):H l=Option.none:=by
 cases q:H l with
 | none=>rfl
 | some o =>
   rw [e l o q] at h
   cases h
theorem az.seq {K:PySem.W.Frag}{H H':Hp}{a:Addr}{xs:List V} (e:az H H') (h:cB K H a xs):cB K H' a xs:=by
 rcases h with (h | ⟨o,h⟩) | h
 · exact .inl (.inl (e _ _ h))
 · exact .inl (.inr ⟨o,e _ _ h⟩)
 · exact .inr h
end L2
namespace L2
open PySem PySem.Spec PyProof.Rows
section
variable {κ:Type} [DecidableEq κ]
def dW (kvs:List (κ × V)) (k:κ):Option V:=(kvs.find? fun kv=>decide (kv.1=k)).map (·.2)
def putK (kvs:List (κ × V)) (k:κ) (v:V):List (κ × V) :=
 if (kvs.any fun kv=>decide (kv.1=k))=true then kvs.map (fun kv=>if kv.1=k then (kv.1,v) else kv) else kvs++[(k,v)]
def ac5 (kvs:List (κ × V)) (k:κ):List (κ × V):=kvs.filter fun kv=>decide (kv.1≠k)
theorem xH {p:κ × V}{r:List (κ × V)}{k:κ} (e:p.1=k):dW (p::r) k=some p.2:=by simp [dW,List.find?_cons,e]
theorem xG {p:κ × V}{r:List (κ × V)}{k:κ} (e:¬ p.1=k):dW (p::r) k=dW r k:=by simp [dW,List.find?_cons,e]
theorem nO (k:κ):∀ kvs:List (κ × V),(kvs.any fun kv=>decide (kv.1=k))=(dW kvs k).isSome
 | []=>rfl
 | p::r=>by
   rw [List.any_cons]
   by_cases e:p.1=k
   · simp only [xH e,decide_eq_true e,Bool.true_or,Option.isSome_some]
   · rw [xG e,decide_eq_false e,Bool.false_or];exact nO k r
theorem Qg (k j:κ) (y:V):∀ kvs:List (κ × V),dW (kvs.map fun kv=>if kv.1=k then (kv.1,y) else kv) j=(dW kvs j).map fun x=>if j=k then y else x
 | []=>rfl
 | p::r=>by
   have ih:=Qg k j y r
   rw [List.map_cons]
   by_cases h:p.1=k
   · rw [if_pos h]
     by_cases e:p.1=j
     · rw [xH (p:=(p.1,y)) e,xH e,Option.map_some,if_pos (e.symm.trans h)]
     · rw [xG (p:=(p.1,y)) e,xG e,ih]
   · rw [if_neg h]
     by_cases e:p.1=j
     · rw [xH (p:=p) e,xH e,Option.map_some,if_neg (fun z=>h (e.trans z))]
     · rw [xG (p:=p) e,xG e,ih]
theorem Mq (k j:κ) (y:V):∀ kvs:List (κ × V),dW kvs k=none→dW (kvs++[(k,y)]) j=if j=k then some y else dW kvs j
 | [],_=>by
   by_cases e:k=j
   · rw [if_pos e.symm];exact xH (p:=(k,y)) e
   · rw [if_neg (fun z=>e z.symm)];exact xG (p:=(k,y)) e
 | p::r,hn=>by
   rw [List.cons_append]
   have hk:¬ p.1=k:=fun z=>by rw [xH z] at hn;cases hn
   rw [xG hk] at hn
   have ih:=Mq k j y r hn
   by_cases e:p.1=j
   · rw [xH e,xH e,if_neg (fun z=>hk (e.trans z))]
   · rw [xG e,xG e,ih]
theorem lO (kvs:List (κ × V)) (k j:κ) (y:V):dW (putK kvs k y) j=if j=k then some y else dW kvs j:=by
 unfold putK
 by_cases a:(kvs.any fun kv=>decide (kv.1=k))=true
 · rw [if_pos a,Qg]
   rw [nO] at a
   by_cases e:j=k
   · obtain⟨x,hx⟩:=Option.isSome_iff_exists.mp a
     rw [if_pos e,e,hx,Option.map_some,if_pos rfl]
   · rw [if_neg e]
     cases dW kvs j with
     | none=>rfl
     | some x=>rw [Option.map_some,if_neg e]
 · rw [if_neg a]
   refine Mq k j y kvs ?_
   rw [nO] at a
   cases q:dW kvs k with
   | none=>rfl
   | some x=>rw [q] at a;exact (a rfl).elim
theorem xK (kvs:List (κ × V)) (k:κ) (v:V):(putK kvs k v).length≤kvs.length+1:=by
 unfold putK
 split
 · rw [List.length_map];omega
 · rw [List.length_append,List.length_cons,List.length_nil];omega
theorem Yg {kvs:List (κ × V)}{k:κ} (v:V) (h:dW kvs k=none):putK kvs k v=kvs++[(k,v)]:=by
 unfold putK
 rw [nO,h]
 exact if_neg (by decide)
theorem qF.qK {o:Option V}{u:Option Value} (r:qF o u):o.isSome=u.isSome:=by
 cases o with
 | none=>cases u with
   | none=>rfl
   | some _=>exact (show False from r).elim
 | some _=>cases u with
   | none=>exact (show False from r).elim
   | some _=>rfl
theorem qF.getD {o:Option V}{u:Option Value}{d:V}{d':Value} (r:qF o u) (rd:RelV d d'):RelV (o.getD d) (u.getD d'):=by
 cases o with
 | none=>cases u with
   | none=>exact rd
   | some _=>exact (show False from r).elim
 | some _=>cases u with
   | none=>exact (show False from r).elim
   | some _=>exact r
theorem KV.val {kvs:List (κ × V)}{vs:List (κ × Value)} (r:KV kvs vs) (k:κ):qF (dW kvs k) (valueAt vs k):=by
 unfold KV at r
 induction r with
 | nil=>exact True.intro
 | @cons p q ps qs h t ih =>
   obtain⟨h1,h2⟩:=h
   by_cases e:p.1=k
   · have e':q.1=k:=h1.symm.trans e
     have b:valueAt (q::qs) k=some q.2:=by simp [valueAt,List.find?_cons,e']
     rw [xH e,b];exact h2
   · have e':¬ q.1=k:=fun z=>e (h1.trans z)
     have b:valueAt (q::qs) k=valueAt qs k:=by simp [valueAt,List.find?_cons,e']
     rw [xG e,b];exact ih
theorem KV.any {kvs:List (κ × V)}{vs:List (κ × Value)} (r:KV kvs vs) (k:κ):(kvs.any fun kv=>decide (kv.1=k))=vs.any fun kv=>decide (kv.1=k):=by
 unfold KV at r
 induction r with
 | nil=>rfl
 | cons h t ih=>rw [List.any_cons,List.any_cons,ih,h.1]
theorem KV.repl {kvs:List (κ × V)}{vs:List (κ × Value)} (r:KV kvs vs) (k:κ) {y:V}{u:Value} (ry:RelV y u) :
   KV (kvs.map fun kv=>if kv.1=k then (kv.1,y) else kv) (vs.map fun kv=>if kv.1=k then (kv.1,u) else kv):=by
 unfold KV at r ⊢
 induction r with
 | nil=>exact .nil
 | @cons p q ps qs h t ih =>
   rw [List.map_cons,List.map_cons]
   refine .cons ?_ ih
   obtain⟨h1,h2⟩:=h
   by_cases e:p.1=k
   · rw [if_pos e,if_pos (h1.symm.trans e)];exact⟨h1,ry⟩
   · rw [if_neg e,if_neg (fun z=>e (h1.trans z))];exact⟨h1,h2⟩
theorem KV.put {kvs:List (κ × V)}{vs:List (κ × Value)} (r:KV kvs vs) (k:κ) {y:V}{u:Value} (ry:RelV y u):KV (putK kvs k y) (stored vs k u):=by
 unfold putK stored
 rw [r.any k]
 by_cases e:(vs.any fun kv=>decide (kv.1=k))=true
 · rw [if_pos e,if_pos e];exact r.repl k ry
 · rw [if_neg e,if_neg e];exact Paired.snoc r ⟨rfl,ry⟩
theorem KV.drop {kvs:List (κ × V)}{vs:List (κ × Value)} (r:KV kvs vs) (k:κ):KV (ac5 kvs k) (without vs k):=by
 unfold KV at r ⊢
 unfold ac5 without
 induction r with
 | nil=>exact .nil
 | @cons p q ps qs h t ih =>
   obtain⟨h1,h2⟩:=h
   rw [List.filter_cons,List.filter_cons]
   by_cases e:p.1=k
   · have a:¬ decide (p.1≠k)=true:=by simp [e]
     have b:¬ decide (q.1≠k)=true:=by simp [h1.symm.trans e]
     rw [if_neg a,if_neg b];exact ih
   · have e':¬ q.1=k:=fun z=>e (h1.trans z)
     have a:decide (p.1≠k)=true:=by simp [e]
     have b:decide (q.1≠k)=true:=by simp [e']
     rw [if_pos a,if_pos b];exact .cons ⟨h1,h2⟩ ih
theorem KV.keys {kvs:List (κ × V)}{vs:List (κ × Value)} (r:KV kvs vs):kvs.map (·.1)=vs.map (·.1):=by
 unfold KV at r
 induction r with
 | nil=>rfl
 | cons h t ih=>rw [List.map_cons,List.map_cons,ih,h.1]
theorem KV.length {kvs:List (κ × V)}{vs:List (κ × Value)} (r:KV kvs vs):kvs.length=vs.length:=Paired.length r
end
theorem Dl {P:Program}{w:World}{k:Key}{u:Value} (r:RelV (kV k) u):(aX P w).is k u=true:=by
 cases k with
 | inl i=>obtain⟨t,e⟩:=(show ∃ t,u=Value.int i t from r);subst e;exact PN P w i t
 | inr x=>obtain⟨t,e⟩:=(show ∃ t,u=Value.str x t from r);subst e;exact PQ P w x t
theorem Mr {P:Program}{w:World}:∀ {ks:List Key}{us:List Value},Vals (ks.map kV) us→ItemsAre (aX P w) ks us
 | [],_,r=>by rw [List.map_nil] at r;cases r;exact .nil
 | k::ks,_,r=>by
   rw [List.map_cons] at r
   cases r with
   | cons h t=>exact .cons (Dl h) (Mr t)
abbrev KT (H:Hp):List (List Key × V)→List (List Key × Addr × Value)→Prop:=Paired fun p q=>p.1=q.1∧H q.2.1=some (.tup (p.1.map kV))∧RelV p.2 q.2.2
theorem KT.val {H:Hp}{kvs:List (List Key × V)}{xs:List (List Key × Addr × Value)} (r:KT H kvs xs) (k:List Key):qF (dW kvs k) ((atKey xs k).map (·.2)):=by
 induction r with
 | nil=>exact True.intro
 | @cons p q ps qs h t ih =>
   obtain⟨h1,_,h2⟩:=h
   by_cases e:p.1=k
   · have e':q.1=k:=h1.symm.trans e
     have b:atKey (q::qs) k=some q.2:=by simp [atKey,List.find?_cons,e']
     rw [xH e,b];exact h2
   · have e':¬ q.1=k:=fun z=>e (h1.trans z)
     have b:atKey (q::qs) k=atKey qs k:=by simp [atKey,List.find?_cons,e']
     rw [xG e,b];exact ih
theorem KT.repl {H:Hp}{kvs:List (List Key × V)}{xs:List (List Key × Addr × Value)} (r:KT H kvs xs) (k:List Key) {y:V}{u:Value} (ry:RelV y u) :
   KT H (kvs.map fun kv=>if kv.1=k then (kv.1,y) else kv) (xs.map (putAt k u)):=by
 induction r with
 | nil=>exact .nil
 | @cons p q ps qs h t ih =>
   rw [List.map_cons,List.map_cons]
   refine .cons ?_ ih
   obtain⟨h1,h2,h3⟩:=h
   unfold putAt
   by_cases e:p.1=k
   · rw [if_pos e,if_pos (h1.symm.trans e)];exact⟨h1,h2,ry⟩
   · rw [if_neg e,if_neg (fun z=>e (h1.trans z))];exact⟨h1,h2,h3⟩
theorem KT.put {H:Hp}{kvs:List (List Key × V)}{xs:List (List Key × Addr × Value)} (r:KT H kvs xs) (k:List Key) {b:Addr}{y:V}{u:Value} (hb:H b=some (.tup (k.map kV))) (ry:RelV y u) :
   KT H (putK kvs k y) (storedH xs k b u):=by
 have e:(kvs.any fun kv=>decide (kv.1=k))=(atKey xs k).isSome:=by
   rw [nO,(r.val k).qK,Option.isSome_map]
 unfold putK storedH
 rw [e]
 by_cases q:(atKey xs k).isSome=true
 · rw [if_pos q,if_pos q];exact r.repl k ry
 · rw [if_neg q,if_neg q];exact Paired.snoc r ⟨rfl,hb,ry⟩
theorem KT.keeps {H H':Hp}{kvs:List (List Key × V)}{xs:List (List Key × Addr × Value)} (r:KT H kvs xs) (ht:∀ b ys,H b=some (.tup ys)→H' b=some (.tup ys)):KT H' kvs xs :=
 Paired.ad1 r fun _ _ z=>⟨z.1,ht _ _ z.2.1,z.2.2⟩
section
variable {P:Program}{w:World}{H:Hp}{h:Heap}{a:Addr}
theorem Yh {u:HO} (ok:uh P w H h) (e:Rd H a u):bw P w H h a u:=e.ok ok
theorem ux {kvs:List (Key × V)} (ok:uh P w H h) (e:Rd H a (.dK kvs)):kvs.length≤sizeLine∧(a == sysModules)=false∧∃ vs,KV kvs vs∧h.DictOf (aX P w) a vs :=
 show bw P w H h a (.dK kvs) from Yh ok e
theorem aip {kvs:List (Key × V)} (ok:uh P w H h) (e:H a=some (.dK kvs)):kvs.length≤sizeLine∧(a == sysModules)=false∧∃ vs,KV kvs vs∧h.DictOf (aX P w) a vs:=ux ok (.inl e)
theorem Bq {ks:List Key} (ok:uh P w H h) (e:H a=some (.tup (ks.map kV))):(tupleKind (aX P w)).is h ks a:=by
 obtain⟨_,its,r,o,h1,h2,n,h3⟩:=(show bw P w H h a (.tup (ks.map kV)) from ok a _ e)
 exact⟨o,its.toArray,n,h1,h2,h3,by simpa using Mr r⟩
theorem Hl {kvs:List (List Key × V)} (ok:uh P w H h) (e:Rd H a (.dT kvs)):kvs.length≤sizeLine∧(a == sysModules)=false ∧
   ∃ xs,KT H kvs xs∧h.DictOfH (tupleKind (aX P w)) a xs:=by
 obtain⟨z,y,xs,r,o,es,ep,h1,h2,h3,h4,h5⟩:=(show bw P w H h a (.dT kvs) from Yh ok e)
 refine⟨z,y,xs,r,o,es,ep,h1,h2,h3,h4,fun x hx=>?_,h5⟩
 have all:∀ {l:List (List Key × V)}{m:List (List Key × Addr × Value)},KT H l m→∀ x∈m,(tupleKind (aX P w)).is h x.1 x.2.1:=by
   intro l m q
   induction q with
   | nil=>intro x hx;exact nomatch hx
   | @cons p q ps qs hq t ih =>
     intro x hx
     rcases List.mem_cons.mp hx with e | hx
     · subst e
       exact Bq ok (by rw [← hq.1];exact hq.2.1)
     · exact ih x hx
 exact all r x hx
theorem aiq {kvs:List (List Key × V)} (ok:uh P w H h) (e:H a=some (.dT kvs)):kvs.length≤sizeLine∧(a == sysModules)=false ∧
   ∃ xs,KT H kvs xs∧h.DictOfH (tupleKind (aX P w)) a xs:=Hl ok (.inl e)
end
def jt (H:Hp) (a:Addr) (y:V) (r:Option V):Prop :=
 (∃ kvs k,Rd H a (.dK kvs)∧y=kV k∧r=dW kvs k)∨∃ kvs k b,Rd H a (.dT kvs)∧y=.ref b∧H b=some (.tup (k.map kV))∧r=dW kvs k
def J5 (H:Hp) (a:Addr) (y v:V) (H':Hp):Prop :=
 (∃ kvs k,H a=some (.dK kvs)∧y=kV k∧kvs.length<sizeLine∧H'=upd H a (.dK (putK kvs k v))) ∨
 ∃ kvs k b,H a=some (.dT kvs)∧y=.ref b∧H b=some (.tup (k.map kV))∧kvs.length<sizeLine∧H'=upd H a (.dT (putK kvs k v))
theorem jt.k {H:Hp}{a:Addr}{kvs:List (Key × V)}{k:Key} (e:H a=some (.dK kvs)):jt H a (kV k) (dW kvs k):=.inl ⟨kvs,k,.inl e,rfl,rfl⟩
theorem jt.t {H:Hp}{a b:Addr}{kvs:List (List Key × V)}{k:List Key} (e:H a=some (.dT kvs)) (eb:H b=some (.tup (k.map kV))):jt H a (.ref b) (dW kvs k):=.inr ⟨kvs,k,b,.inl e,rfl,eb,rfl⟩
theorem J5.k {H:Hp}{a:Addr}{kvs:List (Key × V)}{k:Key}{v:V} (e:H a=some (.dK kvs)) (hl:kvs.length<sizeLine):J5 H a (kV k) v (upd H a (.dK (putK kvs k v))):=.inl ⟨kvs,k,e,rfl,hl,rfl⟩
theorem J5.t {H:Hp}{a b:Addr}{kvs:List (List Key × V)}{k:List Key}{v:V} (e:H a=some (.dT kvs)) (eb:H b=some (.tup (k.map kV))) (hl:kvs.length<sizeLine) :
   J5 H a (.ref b) v (upd H a (.dT (putK kvs k v))):=.inr ⟨kvs,k,b,e,rfl,eb,hl,rfl⟩
section
variable {X:Cx}{pins:List (Addr × Obj)}{σ:St}{H:Hp}{s:Shared}{a:Addr}{y v:V}{u r:Value}{o:Option V}{A:Around}{E:Value→Shared→Prop}
theorem Inv.big (I:Inv X pins σ H s):sysModules<s.heap.objs.size:=by
 have h:mainGlobals<s.heap.objs.size:=(I.mod.glob.keeps I.bk).lt
 exact Nat.lt_trans (by decide) h
theorem Wa {Q:Value→Shared→Prop} (hu:A.units+1<cLine) (I:Inv X pins σ H s) (g:jt H a y (some v)) (ry:RelV y u) (h:∀ w' s',Inv X pins σ H s'→RelV v w'→Q w' s') :
   wpAny (model X.prog X.w) A (getItem (.ref a) u) Q E s:=by
 rcases g with ⟨kvs,k,e,ey,l⟩ | ⟨kvs,k,b,e,ey,eb,l⟩
 · subst ey
   obtain⟨z,hd,vs,rel,dd⟩:=ux I.hok e
   obtain⟨w',hw,vU⟩:=qF.some_of (v:=v) (o:=valueAt vs k) (by rw [l];exact rel.val k)
   exact wpAny_getItem_of (Dl ry) dd.mapOf hw (h w' _ (I.tok _) vU)
 · subst ey
   cases (show u=Value.ref b from ry)
   obtain⟨z,hd,xs,rel,dd⟩:=Hl I.hok e
   obtain⟨w',hw,vU⟩:=qF.some_of (v:=v) (o:=(atKey xs k).map (·.2)) (by rw [l];exact rel.val k)
   obtain⟨p,hp,hp2⟩:=Option.map_eq_some_iff.mp hw
   refine wpAny_getItem_heap (tupleKind_room_in1 hu) (Bq I.hok eb) dd hp ?_
   rw [hp2]
   exact h w' _ (I.tok _) vU
theorem avv {Q:Value→Shared→Prop} (hu:A.units+1<cLine) (I:Inv X pins σ H s) (g:jt H a y o) (ry:RelV y u) (h:∀ s',Inv X pins σ H s'→Q (.bool o.isSome) s') :
   wpAny (model X.prog X.w) A (compareOp .In u (.ref a)) Q E s:=by
 rcases g with ⟨kvs,k,e,ey,l⟩ | ⟨kvs,k,b,e,ey,eb,l⟩
 · subst ey
   obtain⟨z,hd,vs,rel,dd⟩:=ux I.hok e
   refine wpAny_in_of (Dl ry) hd dd.mapOf ?_
   rw [← (rel.val k).qK,← l]
   exact h _ (I.tok _)
 · subst ey
   cases (show u=Value.ref b from ry)
   obtain⟨z,hd,xs,rel,dd⟩:=Hl I.hok e
   refine wpAny_in_heap (tupleKind_room_in1 hu) (Bq I.hok eb) hd dd ?_
   have q:=(rel.val k).qK
   rw [Option.isSome_map] at q
   rw [← q,← l]
   exact h _ (I.tok _)
theorem abL {Q:Value→Shared→Prop} (hu:A.units+1<cLine) (I:Inv X pins σ H s) (g:jt H a y o) (ry:RelV y u) (h:∀ s',Inv X pins σ H s'→Q (.bool (!o.isSome)) s') :
   wpAny (model X.prog X.w) A (compareOp .NotIn u (.ref a)) Q E s:=by
 rcases g with ⟨kvs,k,e,ey,l⟩ | ⟨kvs,k,b,e,ey,eb,l⟩
 · subst ey
   obtain⟨z,hd,vs,rel,dd⟩:=ux I.hok e
   refine wpAny_notIn_of (Dl ry) hd dd.mapOf ?_
   rw [← (rel.val k).qK,← l]
   exact h _ (I.tok _)
 · subst ey
   cases (show u=Value.ref b from ry)
   obtain⟨z,hd,xs,rel,dd⟩:=Hl I.hok e
   refine wpAny_notIn_heap (tupleKind_room_in1 hu) (Bq I.hok eb) hd dd ?_
   have q:=(rel.val k).qK
   rw [Option.isSome_map] at q
   rw [← q,← l]
   exact h _ (I.tok _)
theorem Gy {h':Heap}{t':Nat}{ob:HO} (I:Inv X pins σ H s) (mu:Mut (H a)) (hs:Heap.SameBut a s.heap h') (he:∃ q,h'.get? a=some q) (new:bw X.prog X.w (upd H a ob) h' a ob) :
   Inv X pins σ (upd H a ob) { s with heap:=h',toks:=t' } :=
 I.write (x:=a) (e:=a) mu (.inl rfl) (fun b q hb z=>(hs.2 b hb).trans z) he new
theorem aef {P:Program}{w:World}{H':Hp}{h':Heap}{kvs:List (Key × V)}{vs:List (Key × Value)} (z:kvs.length≤sizeLine) (hd:(a == sysModules)=false) (rel:KV kvs vs) (dd:h'.DictOf (aX P w) a vs) :
   bw P w H' h' a (.dK kvs):=⟨z,hd,vs,rel,dd⟩
theorem Wb {H':Hp}{Q:Unit→Shared→Prop} (hu:A.units+1<cLine) (I:Inv X pins σ H s) (g:J5 H a y v H') (ry:RelV y u) (rv:RelV v r) (h:∀ s',Inv X pins σ H' s'→Q () s') :
   wpAny (model X.prog X.w) A (setItem (.ref a) u r) Q E s:=by
 rcases g with ⟨kvs,k,e,ey,l,eH⟩ | ⟨kvs,k,b,e,ey,eb,l,eH⟩
 · subst ey eH
   obtain⟨z,hd,vs,rel,dd⟩:=aip I.hok e
   have hz:vs.length≤sizeLine:=by rw [← rel.length];exact z
   have hl:(putK kvs k v).length≤sizeLine:=by have:=xK kvs k v;omega
   refine wpAny_setItem_pairs (hsz:=hz) (Dl ry) dd fun h' dd' hs=>h _ ?_
   have he:∃ q,h'.get? a=some q:=let ⟨q,_,_,hq,_⟩:=dd'; ⟨q,hq⟩
   exact Gy I (by rw [e];exact True.intro) hs he (aef hl hd (rel.put k rv) dd')
 · subst ey eH
   cases (show u=Value.ref b from ry)
   obtain⟨z,hd,xs,rel,dd⟩:=aiq I.hok e
   have hz:xs.length≤sizeLine:=by rw [← Paired.length rel];exact z
   have hl:(putK kvs k v).length≤sizeLine:=by have:=xK kvs k v;omega
   refine wpAny_setItem_heap (hsz:=hz) (tupleKind_room_in1 hu) (Bq I.hok eb) dd fun h' dd' hs=>h _ ?_
   obtain⟨q,es,ep,hq,h2,h3,h4,_,h5⟩:=dd'
   refine Gy I (by rw [e];exact True.intro) hs ⟨q,hq⟩ ⟨hl,hd,_,(rel.put k eb rv).keeps fun c ys ec=>?_,q,es,ep,hq,h2,h3,h4,h5⟩
   rw [zL (za ec e (fun z=>nomatch z))]
   exact ec
end
section
variable {X:Cx}{pins:List (Addr × Obj)}{σ:St}{H:Hp}{s:Shared}{a:Addr}{kvs:List (Key × V)}{k:Key}{u:Value}{A:Around}{E:Value→Shared→Prop}
theorem air {Q:Value→Shared→Prop} (I:Inv X pins σ H s) (e:Rd H a (.dK kvs)) (h:∀ t s',Inv X pins σ H s'→Q (.int kvs.length t) s'):wpAny (model X.prog X.w) A (call (.builtin "len") [.ref a]) Q E s:=by
 obtain⟨z,hd,vs,rel,dd⟩:=ux I.hok e
 refine call_len_dict hd dd (by rw [← rel.length];rw [sizeLine_eq] at z;omega) ?_
 rw [← rel.length]
 exact h _ _ (I.tok _)
end
def ais (i:Expr):Prop:=∀ ov iv,subscripted i false ov iv=operate [ov,iv] (getItem ov iv)
theorem abM {prog:Program}{w:World}{A:Around}{E:Value→Shared→Prop}{s:Shared}{env:Env}{value slice:Expr}{pos:Pos}{T id:String}{Q:Value→Shared→Prop}
   (hl:typeLookup (.type T) "__getitem__" = pure (some (.builtin id))) (hs:ais slice)
   (h:wpAny (model prog w) A (eval value env) (fun o s₁=>wpAny (model prog w) A (eval slice env) (fun i s₂=>s₂.TypeIs o T∧wpAny (model prog w) A (getItem o i) Q E s₂) E s₁) E s) :
   wpAny (model prog w) A (eval (.Subscript value slice pos) env) Q E s:=by
 refine Subscript_ (wpAny_mono h (fun o s₁ h₁=>wpAny_mono h₁ (fun i s₂ h₂=>?_) fun _ _ x=>x) fun _ _ x=>x)
 obtain⟨hT,h₂⟩:=h₂
 unfold subscriptTail
 refine wpAny_bind ?_
 rw [getitemInPython_of_ne hT.not_modules]
 refine wpAny_bind (wpAny_specialOf hT hl ?_)
 have fin:wpAny (model prog w) A (subscripted slice false o i) (fun r s₃=>wpAny (model prog w) A (letTemporaryGo value o r >>= fun _=>pure r) Q E s₃) E s₂:=by
   rw [hs o i]
   exact wpAny_operating (wpAny_mono h₂ (fun r s₃ h₃=>wpAny_bind (wpAny_letTemporaryGo (wpAny_pure h₃))) fun _ _ x=>x)
 first
   | exact wpAny_pure (wpAny_bind fin)
   | exact wpAny_bind (wpAny_pure (wpAny_bind fin))
   | exact wpAny_bind fin
theorem Qh {X:Cx}{pins:List (Addr × Obj)}{σ:St}{H:Hp}{s:Shared}{a:Addr}{y:V}{o:Option V} (I:Inv X pins σ H s) (g:jt H a y o):s.TypeIs (.ref a) "dict":=by
 rcases g with ⟨kvs,k,e,_,_⟩ | ⟨kvs,k,b,e,_,_,_⟩
 · obtain⟨_,_,vs,_,dd⟩:=ux I.hok e
   exact dd.typeIs
 · obtain⟨_,_,xs,_,dd⟩:=Hl I.hok e
   exact dd.typeIs
def ait (td ty:TE):TE:=fun σ H Q=>td σ H fun x H1=>ty σ H1 fun y H2=>∃ a v,x=.ref a∧jt H2 a y (some v)∧Q v H2
def aiu (td ty tv:TE):TS:=fun D σ H=>tv σ H fun v H1=>td σ H1 fun x H2=>ty σ H2 fun y H3=>∃ a H4,x=.ref a∧J5 H3 a y v H4∧D.nx σ H4
section
variable {X:Cx}{o i e value:Expr}{pos pos' tpos:Pos}{td ty tv:TE}
theorem m6 (hu:X.A.units+1<cLine) (ho:PE X o td) (hi:PE X i ty) (hs:ais i):PE X (.Subscript o i pos) (ait td ty):=by
 intro pins s σ H Q I h
 refine abM PySem.F.slot_dict_getitem.lookup hs (fM (ho pins s σ H _ I h) fun u s1 ⟨x,H1,I1,rx,q1⟩=>fM (hi pins s1 σ H1 _ I1 q1) fun iv s2 zq=>?_)
 obtain⟨y,H2,I2,ry,a,v,ex,g,q2⟩:=zq
 subst ex
 obtain rfl:u=Value.ref a:=rx
 exact⟨Qh I2 g,Wa hu I2 g ry fun w' s3 I3 vU=>⟨v,H2,I3,vU,q2⟩⟩
theorem Gz (hu:X.A.units+1<cLine) (ho:PE X o td) (hi:PE X i ty) (hv:PE X value tv) (hs:swapsWith value (some (.Subscript o i pos')) pos.line X.env=pure false) :
   PS X (.Assign [.Subscript o i pos'] value pos) (aiu td ty tv):=by
 intro pins s σ H D I h
 refine wpAny_Assign_Subscript (fM (hv pins s σ H _ I h) fun r s1 ⟨v,H1,I1,rv,q1⟩=>fM (ho pins s1 σ H1 _ I1 q1) fun u s2 ⟨x,H2,I2,rx,q2⟩=>fM (hi pins s2 σ H2 _ I2 q2) fun iv s3 ⟨y,H3,I3,ry,a,H4,ex,g,q3⟩=>?_) hs
 subst ex
 obtain rfl:u=Value.ref a:=rx
 exact Wb hu I3 g ry rv fun s4 I4=>⟨σ,H4,I4,q3⟩
end
theorem Yi {P:Program}{w:World}{H:Hp} (h:Heap) (hb:sysModules<h.objs.size):bw P w H (h.push { cls:=.type "dict",data:=.dict #[] }) h.objs.size (.dK []) :=
 ⟨Nat.zero_le _,beq_eq_false_iff_ne.mpr (Ne.symm (Nat.ne_of_lt hb)),[],.nil,Heap.DictOf.new h⟩
def aeg:TE:=fun _ H Q=>∀ p,H p=none→Q (.ref p) (upd H p (.dK []))
section
variable {X:Cx}{pos:Pos}
theorem zm:PE X (.Dict [] [] pos) aeg:=fun pins s σ H Q I h =>
 wpAny_Dict_empty ⟨.ref s.heap.objs.size,_,I.laid (a:=s.heap.objs.size) (o:=.dK []) (t':=s.toks) (fun _ _ q=>Heap.get?_push_of_some _ q) (Nat.le_refl _) (Yi s.heap I.big),rfl,h _ (I.hok.fresh (Nat.le_refl _))⟩
end
def Ss:List (TE × TE)→St→Hp→(List (V × V)→Hp→Prop)→Prop
 | [],_,H,Q=>Q [] H
 | (tk,tv)::r,σ,H,Q=>tk σ H fun x H1=>tv σ H1 fun y H2=>Ss r σ H2 fun ps H3=>Q ((x,y)::ps) H3
abbrev VV:List (V × V)→List (Value × Value)→Prop:=Paired fun p q=>RelV p.1 q.1∧RelV p.2 q.2
def Br (X:Cx) (pos:Pos) (keys:List (Option Expr)) (values:List Expr) (trs:List (TE × TE)):Prop :=
 ∀ (pins:List (Addr × Obj)) (s:Shared) (σ:St) (H:Hp) (Q:List (V × V)→Hp→Prop),Inv X pins σ H s→Ss trs σ H Q →
   wpAny (model X.prog X.w) X.A (evalPairs (pairTrees keys values X.env pos)) (fun vs s'=>∃ ps H',Inv X pins σ H' s'∧VV ps vs∧Q ps H') X.xe s
theorem abN {X:Cx}{pos:Pos}:Br X pos [] [] []:=fun pins s σ H Q I h=>pairTrees_nil_walk ⟨[],H,I,.nil,h⟩
theorem Yj {X:Cx}{pos:Pos}{k v:Expr}{ks:List (Option Expr)}{vs:List Expr}{tk tv:TE}{trs:List (TE × TE)} (hk:PE X k tk) (hv:PE X v tv) (hr:Br X pos ks vs trs) :
   Br X pos (some k::ks) (v::vs) ((tk,tv)::trs):=fun pins s σ H Q I h =>
 pairTrees_cons_walk (fM (hk pins s σ H _ I h) fun u s1 ⟨x,H1,I1,rx,q1⟩=>fM (hv pins s1 σ H1 _ I1 q1) fun w2 s2 ⟨y,H2,I2,ry,q2⟩ =>
   fM (hr pins s2 σ H2 _ I2 q2) fun ws s3 ⟨ps,H3,I3,rel,q3⟩=>⟨(x,y)::ps,H3,I3,.cons ⟨rx,ry⟩ rel,q3⟩)
def wM (kvs more:List (Key × V)):List (Key × V):=more.foldl (fun acc kv=>putK acc kv.1 kv.2) kvs
theorem KV.merge:∀ {more:List (Key × V)}{rs:List (Key × Value)}{kvs:List (Key × V)}{vs:List (Key × Value)},KV more rs→KV kvs vs→KV (wM kvs more) (merged vs rs):=by
 intro more rs kvs vs r
 unfold KV at r
 induction r generalizing kvs vs with
 | nil=>intro q;exact q
 | @cons p q ps qs h t ih =>
   intro r0
   have e:KV (putK kvs p.1 p.2) (stored vs q.1 q.2):=by
     have:=r0.put p.1 h.2
     rw [← h.1];exact this
   exact ih e
theorem wA:∀ (more kvs:List (Key × V)),(wM kvs more).length≤kvs.length+more.length
 | [],kvs=>by show kvs.length≤kvs.length+0;omega
 | p::r,kvs=>by
   have h1:=wA r (putK kvs p.1 p.2)
   have h2:=xK kvs p.1 p.2
   show (wM (putK kvs p.1 p.2) r).length≤_
   rw [List.length_cons];omega
structure M1 (X:Cx) (o:Expr) (m:Str) (apos:Pos) (e:Expr) (cpos:Pos):Prop where
 base:attributeBase o m X.env (eval o X.env)=eval o X.env
 few:((backTo cpos (starEach [e] X.env)).all (fun x=>!x.1) && (backToKw cpos (keywordEach [] X.env)).all (fun x=>x.1.isSome)
   && decide (([e]:List Expr).length+([]:List Keyword).length+(if ([]:List Keyword).isEmpty then 0 else 1)<30))=true
 line:(apos.endLine == cpos.line)=true
 trees:backTo cpos (starEach [e] X.env)=[(false,eval e X.env)]
structure M2 (X:Cx) (o:Expr) (m:Str) (apos:Pos) (e f:Expr) (cpos:Pos):Prop where
 base:attributeBase o m X.env (eval o X.env)=eval o X.env
 few:((backTo cpos (starEach [e,f] X.env)).all (fun x=>!x.1) && (backToKw cpos (keywordEach [] X.env)).all (fun x=>x.1.isSome)
   && decide (([e,f]:List Expr).length+([]:List Keyword).length+(if ([]:List Keyword).isEmpty then 0 else 1)<30))=true
 line:(apos.endLine == cpos.line)=true
 trees:backTo cpos (starEach [e,f] X.env)=[(false,eval e X.env),(false,eval f X.env)]
def IsD (H:Hp) (a:Addr):Prop:=(∃ kvs,Rd H a (.dK kvs))∨∃ kvs,Rd H a (.dT kvs)
theorem Yk {X:Cx}{pins:List (Addr × Obj)}{σ:St}{H:Hp}{s:Shared}{a:Addr} (I:Inv X pins σ H s) (d:IsD H a) :
   s.TypeIs (.ref a) "dict"∧(∀ b,Value.ref a=.ref b→∃ ob,s.heap.get? b=some ob∧ob.dict=none)∧(a == sysModules)=false:=by
 rcases d with ⟨kvs,e⟩ | ⟨kvs,e⟩
 · obtain⟨_,hd,vs,_,dd⟩:=ux I.hok e
   refine⟨dd.typeIs,fun b q=>?_,hd⟩
   cases q
   obtain⟨ob,_,_,h1,h2,_⟩:=dd
   exact⟨ob,h1,h2.2.1⟩
 · obtain⟨_,hd,xs,_,dd⟩:=Hl I.hok e
   refine⟨dd.typeIs,fun b q=>?_,hd⟩
   cases q
   obtain⟨ob,_,_,h1,h2,_⟩:=dd
   exact⟨ob,h1,h2.2.1⟩
section
variable {X:Cx}{pins:List (Addr × Obj)}{σ:St}{H:Hp}{s:Shared}{a:Addr}{y d:V}{u r:Value}{o:Option V}{A:Around}{E:Value→Shared→Prop}
theorem aeh {Q:Value→Shared→Prop} (hu:A.units+1<cLine) (I:Inv X pins σ H s) (g:jt H a y o) (ry:RelV y u) (h:∀ w' s',Inv X pins σ H s'→RelV (o.getD .non) w'→Q w' s') :
   wpAny (model X.prog X.w) A (call (.builtin "dict.get") [.ref a,u]) Q E s:=by
 rcases g with ⟨kvs,k,e,ey,l⟩ | ⟨kvs,k,b,e,ey,eb,l⟩
 · subst ey
   obtain⟨z,hd,vs,rel,dd⟩:=ux I.hok e
   refine call_meetsIn PySem.F.slot_dict_get dd.typeIs PySem.F.entry_dict_get (PySem.F.args_dict_get_2 _ _) (meets_dict_get (aX X.prog X.w) a (Dl ry) hd) ⟨_,dd.mapOf,h _ _ (I.tok _) ?_⟩
   rw [l]
   exact (rel.val k).getD rfl
 · subst ey
   cases (show u=Value.ref b from ry)
   obtain⟨z,hd,xs,rel,dd⟩:=Hl I.hok e
   refine call_meetsIn PySem.F.slot_dict_get dd.typeIs PySem.F.entry_dict_get (PySem.F.args_dict_get_2 _ _) (meetsH_dict_get (tupleKind (aX X.prog X.w)) a b hd) ⟨tupleKind_room_in1 hu,k,xs,Bq I.hok eb,dd,h _ _ (I.tok _) ?_⟩
   rw [l]
   exact (rel.val k).getD rfl
end
def aei (td ty:TE):TE:=fun σ H Q=>td σ H fun x H1=>∃ a,x=.ref a∧IsD H1 a∧ty σ H1 fun y H2=>∃ o,jt H2 a y o∧Q (o.getD .non) H2
section
variable {X:Cx}{o e f:Expr}{apos cpos:Pos}{td ty tx:TE}
theorem Yl (hu:X.A.units+1<cLine) (ho:PE X o td) (he:PE X e ty) (m:M1 X o "get" apos e cpos):PE X (.Call (.Attribute o "get" apos) [e] [] cpos) (aei td ty):=by
 intro pins s σ H Q I h
 refine wpAny_Call_method m.base m.few m.line PySem.F.plainAttrs_dict PySem.F.slot_dict_get PySem.F.type_dict_get (fM (ho pins s σ H _ I h) fun u s1 zq=>?_)
 obtain⟨x,H1,I1,rx,a,ex,d,q1⟩:=zq
 subst ex
 obtain rfl:u=Value.ref a:=rx
 obtain⟨t1,t2,_⟩:=Yk I1 d
 refine⟨t1,t2,?_⟩
 rw [m.trees]
 refine Calls.callWith_builtin rfl (Calls.evalArgs_plain (Calls.spliced_cons (fM (he pins s1 σ H1 _ I1 q1) fun iv s2 ⟨y,H2,I2,ry,ov,g,q2⟩=>Calls.spliced_nil ?_)))
 exact aeh hu I2 g ry fun w' s3 I3 vU=>⟨_,H2,I3,vU,q2⟩
end
section
variable {X:Cx}{pins:List (Addr × Obj)}{σ:St}{H:Hp}{s:Shared}{a:Addr}{kvs:List (Key × V)}{A:Around}{E:Value→Shared→Prop}
end
section
variable {X:Cx}{pins:List (Addr × Obj)}{σ:St}{H:Hp}{s:Shared}{a:Addr}{y:V}{u:Value}{A:Around}{E:Value→Shared→Prop}
end
end L2
namespace L2
open PySem PySem.Spec PyProof.Rows
section
variable {X:Cx}
theorem Wc:d8 X (.builtin "len") (fun xs H Q=>∃ a kvs,xs=[V.ref a]∧H a=some (.dK kvs)∧Q (.int kvs.length) H):=by
 intro pins s σ H xs us Q I r h
 obtain⟨a,kvs,rfl,ha,q⟩:=h
 obtain⟨u,rfl,ru⟩:=vals1 r
 cases ru
 exact air I (.inl ha) fun t s' I'=>⟨.int kvs.length,H,I',⟨t,rfl⟩,q⟩
end
section
variable {κ:Type} [DecidableEq κ]
theorem Ym {kvs:List (κ × V)}{k:κ} (h:dW kvs k=none):¬ k∈kvs.map (·.1):=by
 intro m
 obtain⟨p,hp,e⟩:=List.mem_map.mp m
 have q:(kvs.any fun kv=>decide (kv.1=k))=true:=List.any_eq_true.mpr ⟨p,hp,decide_eq_true e⟩
 rw [nO,h] at q
 exact absurd q (by simp)
theorem UT {kvs:List (κ × V)}{k:κ}{v:V} (h:dW kvs k=some v):k∈kvs.map (·.1):=by
 have q:(kvs.any fun kv=>decide (kv.1=k))=true:=by
   rw [nO,h]
   all_goals rfl
 obtain⟨p,hp,e⟩:=List.any_eq_true.mp q
 exact List.mem_map.mpr ⟨p,hp,of_decide_eq_true e⟩
end
end L2
namespace L2
open PySem PySem.Spec PyProof.Rows PySem.Calls
section
variable {prog:Program}{w:World}{A:Around}{R:Result→Shared→Prop}{s:Shared}
end
def lQ (env:Env):List (Str × NameKind)→List (Str × Addr)→List (Str × Addr)
 | [],cs=>cs
 | (n,k)::r,cs=>lQ env r (if k == .free then match env.cells.lookup n with | some c=>(n,c)::cs | none=>cs else cs)
theorem Qi {env:Env}:∀ {ns:List (Str × NameKind)}{cs:List (Str × Addr)}{y:Str}{c:Addr},(y,c)∈lQ env ns cs→(y,c)∈cs∨env.cells.lookup y=some c
 | [],_,_,_,h=>.inl h
 | (n,k)::r,cs,y,c,h=>by
   unfold lQ at h
   rcases Qi h with q | q
   · split at q
     · cases e:env.cells.lookup n with
       | none=>rw [e] at q;exact .inl q
       | some d =>
         rw [e] at q
         rcases List.mem_cons.mp q with z | z
         · cases z;exact .inr e
         · exact .inl z
     · exact .inl q
   · exact .inr q
theorem Qj {env:Env}:∀ {ns:List (Str × NameKind)}{cs:List (Str × Addr)}{y:Str},((∃ c,(y,c)∈cs)∨((y,NameKind.free)∈ns∧∃ c,env.cells.lookup y=some c))→∃ c,(y,c)∈lQ env ns cs
 | [],_,_,h=>by
   rcases h with h | ⟨h,_⟩
   · exact h
   · cases h
 | (n,k)::r,cs,y,h=>by
   unfold lQ
   apply Qj
   rcases h with ⟨c,h⟩ | ⟨h,c,e⟩
   · left
     split
     · cases e:env.cells.lookup n with
       | none=>exact⟨c,h⟩
       | some d=>exact⟨c,List.mem_cons_of_mem _ h⟩
     · exact⟨c,h⟩
   · rcases List.mem_cons.mp h with z | z
     · cases z
       left
       rw [e]
       exact⟨c,by simp⟩
     · exact .inr ⟨z,c,e⟩
theorem Hm {env:Env}:∀ {ns:List (Str × NameKind)}{cs:List (Str × Addr)},(∀ y,(y,NameKind.free)∈ns→∃ c,env.cells.lookup y=some c) →
   (forIn ns cs fun (x:Str × NameKind) (r:List (Str × Addr))=>(if x.2 == NameKind.free then (do let c ← cellOf env x.1;pure (ForInStep.yield ((x.1,c)::r))) else pure (ForInStep.yield r):Sem (ForInStep (List (Str × Addr)))))=(pure (lQ env ns cs):Sem (List (Str × Addr)))
 | [],_,_=>rfl
 | (n,k)::r,cs,h=>by
   have ih:=@Hm env r
   rw [List.forIn_cons]
   unfold lQ
   cases hk:k == NameKind.free with
   | false =>
     simp only [Bool.false_eq_true,if_false]
     exact ih fun y hy=>h y (List.mem_cons_of_mem _ hy)
   | true =>
     have ek:k=NameKind.free:=by simpa using hk
     subst ek
     obtain⟨c,e⟩:=h n (by simp)
     have ec:cellOf env n=pure c:=by unfold cellOf;rw [e]
     simp only [if_true]
     rw [ec,e]
     exact ih fun y hy=>h y (List.mem_cons_of_mem _ hy)
theorem Su {scope:Scope}{env:Env} (h:∀ y,(y,NameKind.free)∈scope.names→∃ c,env.cells.lookup y=some c):closureFor scope env=pure (lQ env scope.names []):=by
 have q:=Hm (cs:=[]) h
 unfold closureFor
 exact congrArg (fun m=>m >>= fun r=>pure r) q
end L2
namespace L2
open PySem PySem.Spec PyProof.Rows PySem.Calls
theorem xY {env:Env}{y:Str}:∀ {names:List (Str × NameKind)},
   (names.map fun (n,k)=>if (k == NameKind.free && env.scope.kind == .function && env.kindOf n == some .cell) then (n,NameKind.cell) else (n,k)).lookup y
     = (names.lookup y).map fun k=>if (k == NameKind.free && env.scope.kind == .function && env.kindOf y == some .cell) then NameKind.cell else k
 | []=>rfl
 | (n,k)::r=>by
   have ih:=@xY env y r
   by_cases hx:y=n
   · subst hx
     simp only [List.map_cons]
     split <;> rename_i hc
     · rw [List.lookup_cons,List.lookup_cons];simp only [beq_self_eq_true,Option.map_some];rw [if_pos hc]
     · rw [List.lookup_cons,List.lookup_cons];simp only [beq_self_eq_true,Option.map_some];rw [if_neg hc]
   · have hb:(y == n)=false:=beq_eq_false_iff_ne.mpr hx
     simp only [List.map_cons]
     split <;> simp only [List.lookup_cons,hb] <;> exact ih
section
variable {X:Cx}{pins:List (Addr × Obj)}{σ:St}{H:Hp}{s:Shared}{a:Addr}{o:HO}
theorem Inv.track (I:Inv X pins σ H s) (f:qH X pins H a) (hs:X.s₀.heap.objs.size≤a) (new:bw X.prog X.w (upd H a o) s.heap a o):Inv X pins σ (upd H a o) s:=by
 obtain⟨f0,f1,f2,f3,f4,f5⟩:=f
 have old:∀ b ob,X.s₀.heap.get? b=some ob→b≠a:=fun b ob e z=>by subst z;exact absurd (Nat.lt_of_lt_of_le (Heap.lt_size e) hs) (Nat.lt_irrefl _)
 refine⟨I.ok,I.os,I.bare,⟨I.base.keep,I.base.slot,fun b ob e n hx=>?_,I.base.there,fun b xs e=>?_,fun b ob u e=>?_,fun b ps e=>?_⟩,I.loc,I.cell,?_,fun x c e=>?_,fun p hp=>?_,fun b u e=>?_,I.len⟩
 · rw [zL (old b ob e)];exact I.base.free b ob e n hx
 · have q:=I.base.tups b xs e;rw [zL (zI q f0)];exact q
 · have q:=I.base.j4 b ob u e;rw [zL (zI q f0)];exact q
 · obtain⟨more,q⟩:=I.base.mZ b ps e;exact⟨more,by rw [zL (zI q f0)];exact q⟩
 · rw [zL (Ne.symm f1)];exact I.free
 · rw [zL (f4 x c e)];exact I.jH x c e
 · obtain⟨e,n,ne,nf,d⟩:=I.pin p hp
   exact⟨e,by rw [zL (f5 p hp)];exact n,ne,nf,d⟩
 · by_cases hb:b=a
   · subst hb;rw [zB] at e;cases e;exact new
   · rw [zL hb] at e
     exact (I.hok b u e).stay (fun c v _ q=>q) (fun c q=>by rw [zL (zI q f0)];exact q) fun c xs q=>by rw [zL (zI q f0)];exact q
end
def iW (X:Cx) (scope:Scope) (C:Addr) (x:Str) (M:List Str) (s₂:Shared) (H₂:Hp) (fp:List Addr):Cx :=
 { X with N:=x::M,s₀:=s₂,H₀:=H₂,env:=compEnvC scope (lQ X.env scope.names []) C X.env,outer:=X.stack,ex:=fp,fn:=fun _=>false,pn:=[],xe:=fun _ _=>False }
structure fP (X:Cx) (scope:Scope) (x:Str) (M:List Str):Prop where
 kind:scope.kind=.function
 cell:∀ y∈scope.names,y.2≠.cell
 names:∀ y∈scope.names,y.2=.local→scope.names.lookup y.1=some .local
 loc:scope.names.lookup x=some .local
 nd:(x::M).Nodup
 free:∀ y,(y,NameKind.free)∈scope.names→X.env.scope.names.lookup y=some .cell∨X.env.scope.names.lookup y=some .free
 len:M.length=X.N.length
 sub:∀ (j:Nat) y,M[j]? = some y→scope.names.lookup y=some .local∨scope.names.lookup y=some .free→X.N[j]? = some y∧scope.names.lookup y=some .free
def UW (names outer:List (Str × NameKind)) (N M:List Str) (x:Str):Bool :=
 names.all (fun y=>decide (y.2≠.cell)) && names.all (fun y=>decide (y.2=.local→names.lookup y.1=some .local)) && decide (names.lookup x=some .local) && decide (x::M).Nodup &&
 names.all (fun y=>decide (y.2=.free→(outer.lookup y.1=some .cell∨outer.lookup y.1=some .free))) && decide (M.length=N.length) &&
 (M.zip N).all (fun p=>decide (names.lookup p.1=some .local∨names.lookup p.1=some .free→p.1=p.2∧names.lookup p.1=some .free))
theorem xA {X:Cx}{scope:Scope}{x:Str}{M:List Str} (hk:scope.kind=.function) (h:UW scope.names X.env.scope.names X.N M x=true):fP X scope x M:=by
 unfold UW at h
 simp only [Bool.and_eq_true,List.all_eq_true,decide_eq_true_eq] at h
 obtain⟨⟨⟨⟨⟨⟨h1,h2⟩,h3⟩,h4⟩,h5⟩,h6⟩,h7⟩:=h
 refine⟨hk,h1,h2,h3,h4,fun y hy=>h5 _ hy rfl,h6,fun j y e q=>?_⟩
 have hj:j<M.length:=(List.getElem?_eq_some_iff.mp e).1
 have hj2:j<X.N.length:=by omega
 have z:(M.zip X.N)[j]? = some (y,X.N[j]):=by rw [List.getElem?_zip_eq_some];exact⟨e,by simp [hj2]⟩
 have r:=h7 _ (List.mem_of_getElem? z) q
 exact⟨by rw [List.getElem?_eq_getElem hj2];exact congrArg some r.1.symm,r.2⟩
section
variable {X:Cx}{scope:Scope}{x:Str}{M:List Str}{pins:List (Addr × Obj)}{σ:St}{H₂:Hp}{s₂:Shared}
theorem fP.zp {y:Str}{c:Addr} (h:(lQ X.env scope.names []).lookup y=some c):X.env.cells.lookup y=some c:=by
 rcases Qi (PySem.mem_of_lookup h) with q | q
 · cases q
 · exact q
theorem fP.Sv (K:fP X scope x M) (ok:X.Ok) {y:Str} (h:(y,NameKind.free)∈scope.names):∃ c,(lQ X.env scope.names []).lookup y=some c∧X.env.cells.lookup y=some c:=by
 have e1:∃ c,X.env.cells.lookup y=some c:=ok.has y (K.free y h)
 obtain⟨c,hc⟩:=Qj (env:=X.env) (ns:=scope.names) (cs:=[]) (y:=y) (.inr ⟨h,e1⟩)
 have q:∃ c,(lQ X.env scope.names []).lookup y=some c:=by
   cases e:(lQ X.env scope.names []).lookup y with
   | some c=>exact⟨c,rfl⟩
   | none =>
     rw [List.lookup_eq_none_iff] at e
     have:=e _ hc
     simp at this
 obtain⟨c',hc'⟩:=q
 exact⟨c',hc',fP.zp hc'⟩
theorem fP.closure (K:fP X scope x M) (ok:X.Ok):closureFor scope X.env=pure (lQ X.env scope.names []) :=
 Su fun y hy=>by obtain⟨c,_,q⟩:=K.Sv ok hy;exact⟨c,q⟩
theorem Qk (K:fP X scope x M) (I:Inv X pins σ H₂ s₂) {fp:List Addr} (hf:∀ b∈fp,qH X pins H₂ b) (hfl:∀ b∈fp,b<s₂.heap.objs.size) {C:Addr} (hC:s₂.heap.objs.size≤C) {h₁:Heap}{t:Nat}{m:Str→Option Value} (hn:h₁.Ns C m)
   (hk:∀ b o,s₂.heap.get? b=some o→h₁.get? b=some o):Inv (iW X scope C x M s₂ H₂ fp) [] (none::σ) H₂ { s₂ with heap:=h₁,toks:=t }:=by
 have lt:∀ {b:Addr}{o:Obj},s₂.heap.get? b=some o→b≠C:=fun {b o} e z=>by subst z;exact absurd (Nat.lt_of_lt_of_le (Heap.lt_size e) hC) (Nat.lt_irrefl _)
 have cC:∀ y c,(lQ X.env scope.names []).lookup y=some c→c≠C:=fun y c e=>by
   obtain⟨v,o,ho,_⟩:=I.cell y c (fP.zp e)
   exact lt ho
 have sub:∀ b∈frs X.stack,b=X.env.locals∨b∈X.fs:=fun b hb=>List.mem_cons.mp (I.rE b hb)
 have ok:(iW X scope C x M s₂ H₂ fp).Ok:=by
   refine⟨I.ok.mod,K.kind,I.ok.glob,I.ok.blt,hC,fun y z c h1 h2=>?_,fun y hy=>?_,fun y c z=>?_,I.ok.hd,I.ok.frames,.inl rfl,fun b hb=>⟨?_,fun y c e=>?_⟩,I.bs,Nat.le_trans I.ok.Xu I.sz,fun b o e hb=>?_,fun b hb hb2=>?_,I.stack,I.vB⟩
   · exact I.ok.inj y z c (fP.zp h1) (fP.zp h2)
   · have hy':(relabel scope X.env).names.lookup y=some .cell∨(relabel scope X.env).names.lookup y=some .free:=hy
     have q:(y,NameKind.free)∈scope.names:=by
       unfold relabel at hy'
       rw [xY] at hy'
       cases e:scope.names.lookup y with
       | none=>rw [e] at hy';simp at hy'
       | some k =>
         have hm:=PySem.mem_of_lookup e
         cases k with
         | free=>exact hm
         | cell=>exact absurd rfl (K.cell _ hm)
         | _=>rw [e] at hy';simp at hy'
     obtain⟨c,q,_⟩:=K.Sv I.ok q
     exact⟨c,q⟩
   · exact Bool.noConfusion (show false=true from z)
   · intro z
     have z':b=C:=z
     subst z'
     exact absurd (Nat.lt_of_lt_of_le (hfl b hb) hC) (Nat.lt_irrefl _)
   · exact (hf b hb).2.2.2.2.1 y c (fP.zp e)
   · have q:=(hf b hb).2.2.2.1
     rcases q with q | q
     · exact I.ok.V1 b o e q
     · exact absurd (Nat.lt_of_lt_of_le (Heap.lt_size (I.ok.bs b o e).1) q) (Nat.lt_irrefl _)
   · rcases sub b hb2 with z | z
     · exact (hf b hb).2.1 z
     · exact (hf b hb).2.2.1 z
 refine⟨ok,rfl,I.bare,Un.kept hk,⟨m,hn,fun i y v e1 e2 e3=>?_⟩,fun y c e=>?_,?_,fun y c e=>?_,fun p hp=>absurd (show p∈([]:List (Addr × Obj)) from hp) (by simp),I.hok.kept hk,?_⟩
 · cases i with
   | zero =>
     have e2':some (none:Option V)=some (some v):=e2
     cases e2'
   | succ j =>
     have e1':M[j]? = some y:=e1
     have e2':σ[j]? = some (some v):=e2
     have e3':(relabel scope X.env).names.lookup y=some .local∨(relabel scope X.env).names.lookup y=some .cell∨(relabel scope X.env).names.lookup y=some .free:=e3
     have q:scope.names.lookup y=some .local∨scope.names.lookup y=some .free:=by
       unfold relabel at e3'
       rw [xY] at e3'
       cases e:scope.names.lookup y with
       | none=>rw [e] at e3';simp at e3'
       | some k =>
         have hm:=PySem.mem_of_lookup e
         cases k with
         | free=>exact .inr rfl
         | «local»=>exact .inl rfl
         | cell=>exact absurd rfl (K.cell _ hm)
         | _=>rw [e] at e3';simp at e3'
     obtain⟨nj,fr⟩:=K.sub j y e1' q
     have hm:=PySem.mem_of_lookup fr
     have kd:=K.free y hm
     have vs:Vis X.env.scope y:=.inr kd
     obtain⟨mo,_,lo⟩:=I.loc
     obtain⟨u,r,l⟩:=lo j y v nj e2' vs
     refine⟨u,r,.inr ⟨?_,?_⟩⟩
     · show (relabel scope X.env).names.lookup y=some .cell∨(relabel scope X.env).names.lookup y=some .free
       unfold relabel
       rw [xY,fr]
       simp only [Option.map_some]
       split
       · exact .inl rfl
       · exact .inr rfl
     · obtain⟨c,q1,q2⟩:=K.Sv I.ok hm
       rcases l with ⟨k,_⟩ | ⟨_,c',q3,z⟩
       · have k':X.env.scope.names.lookup y=some .local:=k
         rcases kd with kd | kd <;> · rw [k'] at kd;cases kd
       · rw [q2] at q3
         cases q3
         obtain⟨oc,ho,hd⟩:=z
         exact⟨c,q1,oc,hk _ _ ho,hd⟩
 · obtain⟨v,oc,ho,hd⟩:=I.cell y c (fP.zp e)
   exact⟨v,oc,hk _ _ ho,hd⟩
 · exact I.hok.fresh hC
 · exact I.jH y c (fP.zp e)
 · show (none::σ).length=(x::M).length
   rw [List.length_cons,List.length_cons,K.len,I.len]
end
end L2
namespace L2
open PySem PySem.Spec PyProof.Rows PySem.Calls
section
variable {X:Cx}{scope:Scope}{x:Str}{M:List Str}{pins:List (Addr × Obj)}{σ:St}{H₂:Hp}{s₂:Shared}{elt iter:Expr}{px pos:Pos}{te:TE}{wi:TI}
end
end L2
namespace L2
open PySem PySem.Spec PyProof.Rows PySem.Calls
def S (l:List Nat):Str:=⟨l.toArray⟩
abbrev cd (x:Str):List Nat:=x.cps.toList
theorem En (l:List Nat):cd (S l)=l:=rfl
theorem zr (x:Str):S (cd x)=x:=by cases x;rfl
theorem aiv {a b:List Nat} (h:S a=S b):a=b:=congrArg cd h
theorem Sw {x y:Str} (h:cd x=cd y):x=y:=by rw [← zr x,← zr y,h]
theorem uy (l:List Nat):(S l).length=l.length:=by show l.toArray.size=_;simp
theorem xS (x:Str):x.length=(cd x).length:=by show x.cps.size=_;simp
theorem Ql (a b:List Nat):S a++S b=S (a++b):=by
 show (⟨a.toArray++b.toArray⟩:Str)=⟨(a++b).toArray⟩
 simp
theorem j6 (x y:Str):cd (x++y)=cd x++cd y:=by
 show (x.cps++y.cps).toList=_
 simp
section
variable {X:Cx}{tg:Expr}
end
section
variable {X:Cx}
theorem U0 {ys:List Str}:∀ {its:List Value},Vals (ys.map V.str) its→StrsAre its ys:=by
 induction ys with
 | nil=>intro its r;cases r;exact .nil
 | cons y ys ih =>
   intro its r
   cases r with
   | cons a b=>obtain⟨t,rfl⟩:=a;exact .cons _ _ (ih b)
def Dm (sep:Str) (ys:List Str):Str:=Txt.join sep ys
theorem abO:MtM X "str.join" (fun x vs H Q=>∃ (sep:Str) (p:Addr) (ys:List Str),x=.str sep∧vs=[.ref p]∧(cB X.K H p (ys.map V.str)∨jJ X.K H p (ys.map V.str))∧(ys.map (·.length)).sum+ys.length*sep.length≤16777216∧Q (.str (Dm sep ys)) H):=by
 intro pins s σ H x vs v us Q I rx rv h
 obtain⟨sep,p,ys,rfl,rfl,hq,hz,q⟩:=h
 obtain⟨t,rfl⟩:=rx
 obtain⟨u,rfl,ru⟩:=rv.one
 cases ru
 rcases hq with hq | hq
 · obtain⟨its,r,pl,_⟩:=I.list hq
   exact join_list pl.isList (by simpa using U0 r) hz fun t' k=>⟨.str _,H,I.tok _,⟨_,rfl⟩,q⟩
 · obtain⟨its,r,pl,_⟩:=I.tuple hq
   exact join_tuple pl (by simpa using U0 r) hz fun t' k=>⟨.str _,H,I.tok _,⟨_,rfl⟩,q⟩
theorem rJ:jZ X (binaryOp .Mult) (rI (fun i j=>Builtin.Int.intBits i≤60000000∧Builtin.Int.intBits j≤60000000) fun i j=>.int (i*j)):=opI fun i j _ _ _ _ _ hc q=>mul_int q (IntMulOk.of_le hc.1 hc.2 (by decide))
def Eo (xs:List Nat) (lo hi:Option Int):List Nat:=(xs.drop (HT.wz xs.length 0 lo)).take (HT.wz xs.length xs.length hi - HT.wz xs.length 0 lo)
theorem Yn (xs:List Nat) (i k:Nat):(List.range k).filterMap (fun m=>xs[i+m]?)=(xs.drop i).take k:=by
 induction k generalizing i with
 | zero=>simp
 | succ k ih =>
   rw [List.range_succ_eq_map,List.filterMap_cons]
   have e:(List.map Nat.succ (List.range k)).filterMap (fun m=>xs[i+m]?)=(List.range k).filterMap (fun m=>xs[(i+1)+m]?):=by
     rw [List.filterMap_map]
     congr 1
     funext m
     show xs[i+(m+1)]? = xs[i+1+m]?
     congr 1;omega
   rw [e,ih (i+1)]
   by_cases hi:i<xs.length
   · rw [Nat.add_zero,List.getElem?_eq_getElem hi,List.drop_eq_getElem_cons hi,List.take_succ_cons]
   · rw [Nat.add_zero,List.getElem?_eq_none (Nat.not_lt.mp hi),List.drop_eq_nil_of_le (Nat.not_lt.mp hi),List.drop_eq_nil_of_le (by omega)]
     simp
theorem Wd (lo hi:Option Int) (n:Nat):Builtin.Str.strSliceIndices lo hi 1 n=(List.range (HT.wz n n hi - HT.wz n 0 lo)).map fun m=>HT.wz n 0 lo+m:=by
 unfold Builtin.Str.strSliceIndices sliceRange
 have h1:(1:Int) > 0:=by omega
 simp only [h1,if_true,Int.ediv_one]
 have cl:∀ (v:Int) (d:Nat),max 0 (min (if v<0 then v+(n:Int) else v) (n:Int))=((HT.wz n d (some v):Nat):Int):=fun v d=>by
   show _=(((if v<0 then (v+(n:Int)).toNat else min v.toNat n):Nat):Int)
   by_cases hv:v<0
   · simp only [if_pos hv];omega
   · simp only [if_neg hv];omega
 have fin:∀ a b:Nat,(List.range (if (a:Int)<(b:Int) then (b:Int) - (a:Int)+1 - 1 else 0).toNat).map (fun k:Nat=>((a:Int)+1*(k:Int)).toNat)=(List.range (b - a)).map fun m=>a+m:=fun a b=>by
   have e1:(if (a:Int)<(b:Int) then (b:Int) - (a:Int)+1 - 1 else 0).toNat=b - a:=by split <;> omega
   rw [e1]
   apply List.map_congr_left
   intro k _
   omega
 cases lo with
 | none =>
   cases hi with
   | none=>exact fin 0 n
   | some v=>simp only [cl v n];exact fin 0 _
 | some u =>
   cases hi with
   | none=>simp only [cl u 0];exact fin _ n
   | some v=>simp only [cl u 0,cl v n];exact fin _ _
theorem Yo (x:Str) (lo hi:Option Int):Txt.slice x lo hi=S (Eo (cd x) lo hi):=by
 unfold Txt.slice
 rw [Wd]
 have hx:x.length=(cd x).length:=xS x
 split
 · rename_i h
   simp only [Bool.and_eq_true,beq_iff_eq,List.length_map,List.length_range] at h
   rw [hx] at h
   have h2:=h.2
   have l1:=HT.aed (cd x).length (cd x).length (Nat.le_refl _) hi
   unfold Eo
   rw [h2]
   have l0:HT.wz (cd x).length 0 lo=0∨(cd x).length=0:=by omega
   rcases l0 with l0 | l0
   · rw [l0,List.drop_zero,List.take_length,zr]
   · have e:cd x=[]:=List.eq_nil_of_length_eq_zero l0
     apply Sw
     rw [e];simp [En]
 · rw [List.filterMap_map]
   unfold S Eo
   congr 2
   rw [← Yn,hx]
   congr 1
   funext m
   show x.cps[_]? = (cd x)[_]?
   simp [cd]
theorem Yp:Dk X (fun x lo hi H Q=>∃ z,x=.str z∧z.length≤sizeLine∧Q (.str (S (Eo (cd z) lo hi))) H):=by
 intro pins s σ H x v vl vu lo hi sl Q I rx hs pl pu h
 obtain⟨z,rfl,hz,q⟩:=h
 obtain⟨t,rfl⟩:=rx
 refine⟨"str",_,slot_str_getitem.lookup,typeIs_str s z t,?_⟩
 rw [← Yo] at q
 have fin:∀ (l u:Option (Int × Tok)),l.map (·.1)=lo→u.map (·.1)=hi→vl=partValue l→vu=partValue u→wpAny (model X.prog X.w) X.A (getItem (.str z t) (.ref sl)) (EP X pins σ Q) X.xe s:=fun l u e1 e2 e3 e4=>by
   subst e3 e4
   obtain⟨o,ho,hc,hd⟩:=hs
   subst e1 e2
   exact wpAny_getItem_str_slice (l:=l) (u:=u) (st:=none) ⟨o,ho,hc,hd⟩ rfl (post_val_or_str ⟨Nat.le_trans (Txt.slice_le z _ _) hz,fun t' k=>⟨.str _,H,I.tok _,⟨_,rfl⟩,q⟩⟩)
 cases pl with
 | none =>
   cases pu with
   | none=>exact fin none none rfl rfl rfl rfl
   | int i t=>exact fin none (some (i,t)) rfl rfl rfl rfl
 | int j t' =>
   cases pu with
   | none=>exact fin (some (j,t')) none rfl rfl rfl rfl
   | int i t=>exact fin (some (j,t')) (some (i,t)) rfl rfl rfl rfl
end
end L2
namespace Att
open PySem PySem.W PySem.Calls PyProof.Rows
theorem Qm {ns:List Int} (h:WData.layableAll [WData.list (ns.map WData.int)]=true):∀ n∈ns,Builtin.Int.intBits n≤1048576:=by
 have h1:(WData.list (ns.map WData.int)).layable=true:=by simpa [WData.layableAll] using h
 intro n hn
 have h2:=layableW_item h1 (.int n) (List.mem_map.mpr ⟨n,hn,rfl⟩)
 have h3:=(layableW_iff.mp h2).2.2
 simpa [WData.weight,Builtin.Int.intBits] using h3
theorem Nz {l:OpenLaw}{n:Nat}{q:Program}{loose:List Str}{XP:(Str→Option Value)→Heap→Prop}{YP:World→Heap→Prop}{d:DefRec}
   (hn:l.most=some n) (hdf:d.params.defaults=[])
   (call:∀ (w:World) (s₀ s₁:Shared) (mg mb:Str→Option Value) (fa:Addr) (o:Obj) (pm cd doc:Value) (a:Addr) (vs:List Value) (ns:List Int),
     Ground q loose [] XP w s₀ mg mb s₁.heap→YP w s₁.heap →
     s₁.heap.get? fa=some o→o.data=.func (docDef d.name d.params d.body d.scope pm cd doc)→s₁.heap.CodeRec cd d.name→mg d.name=some (.ref fa) →
     s₁.heap.get? a=some { cls:=.type "list",data:=.seq vs.toArray }→IntsAre vs ns→ns.length≤n→(∀ n∈ns,Builtin.Int.intBits n≤1048576)→s₁.gens=#[] →
     codeAny (model l.prog w) callerA (.call (.ref fa) ⟨[.ref a],[]⟩) (fun r s'=>r=.ok (.ret (.bool true))∧OldK s₁.heap s'.heap∧s'.os=s₁.os∧AllBare s'.gens) s₁) :
   WalkO q loose XP YP l.row.toRowW d [] (fun f vs=>PySem.call f vs):=by
 intro w s₀ s₁ mg mb G Y fa o pm cd doc dV kV ho hd hcd hD hmg hg args vals as hpre hlay hrd hwl hlo
 obtain rfl:dV=.none:=Dflts.none hD hdf
 obtain rfl:kV=.none:=Dflts.noKw hD
 obtain⟨a,vs,ns,rfl,rfl,hobj,hints,hlen⟩:=V8 hn hpre hwl
 refine enter_call (codeAny_mono (call w s₀ s₁ mg mb fa o pm cd doc a vs ns G Y ho (fd_plain hd) hcd hmg hobj hints hlen (Qm hlay) hg) fun r s' hq=>?_)
 obtain⟨rfl,h2,h3,h4⟩:=hq
 exact⟨.inl ⟨.bool true,.bool true,[],rfl,fun _=>rfl,.bool true,V9 l _,fun _=>⟨List.Pairwise.nil,fun _ hm=>(nomatch hm)⟩⟩,h2,h3,h4⟩
end Att
namespace L2
open PySem PySem.Spec PyProof.Rows
theorem Yq {l:PySem.W.OpenLaw}{n k:Nat}{q:Program}{loose:List Str}{XP:(Str→Option Value)→Heap→Prop}{YP:World→Heap→Prop}{d:DefRec}{K:Params→PySem.W.Frag}{CX:World→Nr}{sp:World→Sp}{x:Str}
   (hn:l.most=some n) (hn2:n≤sizeLine) (hdf:d.params.defaults=[]) (hr:gK k callerA)
   (hY:∀ (w:World) (h:Heap),YP w h→(K w.params).In h)
   (F:∀ (w:World) (mg:Str→Option Value) (fa:Addr) (h:Heap),(K w.params).In h→h.Ns mainGlobals mg→mg d.name=some (.ref fa) →
     ∃ fd:FuncData,(∀ (s:Shared) (u:Value),BindsTo s fd ⟨[u],[]⟩ [(x,u)]) ∧
       ∀ base:Heap,(K w.params).In base→base.Ns mainGlobals mg→aN l.prog w (K w.params) mg base (CX w) k fa fd [x] (sp w))
   (hsp:∀ (w:World) (H:Hp) (a:Addr) (ns:List Int),ns.length≤n→(∀ n∈ns,Builtin.Int.intBits n≤1048576)→Only H→cB (K w.params) H a (ns.map V.int)→sp w [.ref a] H (fun v _=>v=.bl true) fun _ _ _=>False)
   (hCX:∀ (w:World) (H:Hp) (s:Shared) (e:Value) (s':Shared),CX w [] H s (fun _ _ _=>False) e s'→False) :
   PySem.W.WalkO q loose XP YP l.row.toRowW d [] (fun f vs=>PySem.call f vs):=by
 refine Att.Nz hn hdf fun w s₀ s₁ mg mb fa o pm cd doc a vs ns G Y ho hd hcd hmg hobj hints hlen aiw hg=>?_
 have KX:=hY w _ Y
 obtain⟨fd,hb,hF⟩:=F w mg fa _ KX G.T.g hmg
 exact Ye KX G.T.g G.T.b G.T.builtins G.T.nolimit hg hobj hints (Nat.le_trans hlen hn2) hr hF hb (fun H hO hS=>hsp w H a ns hlen aiw hO hS) fun H e s'=>hCX w H s₁ e s'
def pH (mg:Str→Option Value) (x:Str) (v:V):Prop:=∃ u,mg x=some u∧RelV v u
theorem xN {X:Cx}{x:Str}{v:V}{pos:Pos} (hg:Gl X x) (h:pH X.mg x v) (hd:(x == ("__debug__":Str))=false:=by decide):PE X (.Name x pos) (tC v):=by
 obtain⟨u,hm,r⟩:=h
 exact abz hg hm r hd
theorem jJ.mod {K:PySem.W.Frag}{a:Addr}{oc:Value}{od:Option Addr}{its:Array Value}{n:Nat}{sl:Array (Option Value)}{xs:List V} (h:K.lookup a=some ⟨oc,od,.seq its n,sl⟩) (hc:oc=.type "tuple") (hz:its.size≤sizeLine) (hv:Vals xs its.toList) (H:Hp):jJ K H a xs :=
 .inr ⟨_,its,n,h,hc,rfl,hz,hv⟩
theorem az.tup {K:PySem.W.Frag}{H H':Hp}{a:Addr}{xs:List V} (e:az H H') (h:jJ K H a xs):jJ K H' a xs:=by
 rcases h with (h | ⟨o,h⟩) | h
 · exact .inl (.inl (e _ _ h))
 · exact .inl (.inr ⟨o,e _ _ h⟩)
 · exact .inr h
theorem zG {H:Hp}{p:Addr} (h:H p=none) (o:HO):az H (upd H p o):=fun b u q=>by rw [zL (zI q h)];exact q
namespace Bt
theorem int:bootBuiltins "int" = some (.type "int"):=PyProof.Rows.boot_int
theorem bool:bootBuiltins "bool" = some (.type "bool"):=PyProof.Rows.boot_bool
theorem str:bootBuiltins "str" = some (.type "str"):=PyProof.Rows.boot_str
theorem list:bootBuiltins "list" = some (.type "list"):=PyProof.Rows.boot_list
theorem tuple:bootBuiltins "tuple" = some (.type "tuple"):=PyProof.Rows.boot_tuple
theorem dict:bootBuiltins "dict" = some (.type "dict"):=PyProof.Rows.boot_dict
theorem set:bootBuiltins "set" = some (.type "set"):=PyProof.Rows.boot_set
theorem isinstance:bootBuiltins "isinstance" = some (.builtin "isinstance"):=PyProof.Rows.boot_isinstance
theorem all:bootBuiltins "all" = some (.builtin "all"):=PyProof.Rows.boot_all
theorem abs:bootBuiltins "abs" = some (.builtin "abs"):=PyProof.Rows.Boot.«abs»
end Bt
end L2
namespace L2
open PySem PySem.Spec PyProof.Rows
abbrev ib (x:Int):Nat:=Builtin.Int.intBits x
theorem Yr {x:Int} (h1:-(2 ^ 64)<x) (h2:x<2 ^ 64):ib x≤64:=intBits_le_64 h1 h2
theorem Ys {m:Nat}{x:Int} (h:x.natAbs<2 ^ m):ib x≤m:=intBits_le_iff.mpr h
theorem NB {α:Type}{l:List α}{i:Int} (h0:0≤i) (h1:i<l.length):∃ c,atI l i=some c∧l[i.toNat]? = some c:=by
 have hk:i.toNat<l.length:=by omega
 refine⟨l[i.toNat],?_,List.getElem?_eq_getElem hk⟩
 have e:i=((i.toNat:Nat):Int):=by omega
 have q:atI l ((i.toNat:Nat):Int)=some l[i.toNat]:=xE (List.getElem?_eq_getElem hk)
 rw [← e] at q
 exact q
theorem az.ty {K:PySem.W.Frag}{H H':Hp}{x:V}{t:Value} (e:az H H') (h:aH K H x t):aH K H' x t:=by
 cases h with
 | non=>exact .non
 | bl x=>exact .bl x
 | int i=>exact .int i
 | str x=>exact .str x
 | flt x=>exact .flt x
 | lst q=>exact .lst (e _ _ q)
 | jG q=>exact .jG (e _ _ q)
 | tup q=>exact .tup (e _ _ q)
 | dK q=>exact .dK (e _ _ q)
 | dT q=>exact .dT (e _ _ q)
 | ins q a b c d f=>exact .ins (e _ _ q) a b c d f
theorem zZ {n m:Nat} (h:n≤m) (hm:m≤16777216:=by decide):n≤sizeLine:=by rw [sizeLine_eq];omega
def qL (sep:List Nat):List (List Nat)→List Nat
 | []=>[]
 | [x]=>x
 | x::y::r=>x++sep++qL sep (y::r)
theorem Qn (sep:Str) (ys:List Str):Dm sep ys=S (qL (cd sep) (ys.map cd)):=by
 have e:Dm sep ys=Str.join sep ys:=StrLaws.glued_eq_join sep ys
 rw [e]
 clear e
 induction ys with
 | nil=>rfl
 | cons y r ih =>
   cases r with
   | nil=>exact (zr y).symm
   | cons z r =>
     show y++sep++Str.join sep (z::r)=S (cd y++cd sep++qL (cd sep) ((z::r).map cd))
     rw [ih,← Ql,← Ql,zr,zr]
structure aD8 (J:It) (te:TE) (σ:St) (H1:Hp) (Q:VK):Prop where
 ex:∃ (n:Nat) (W:Nat→List V→Hp→Prop),n≤sizeLine∧W 0 [] H1∧∀ i ys H,i≤n→ys.length=i→W i ys H →
   (J.stop i H∧∀ p,H p=none→Q (.ref p) (upd H p (.lst ys)))∨(J.go i H∧i<n∧∀ x H',J.V2 i H x H'→te (some x::σ) H' fun v H''=>W (i+1) (ys++[v]) H'')
structure Yt (J:It) (g:TG) (tb:TS) (D:Ends) (σ:St) (H1:Hp):Prop where
 ex:∃ W:Nat→Nat→St→Hp→Prop,(∃ m,W 0 m σ H1)∧∀ i m σ H,W i m σ H →
   (J.stop i H∧D.nx σ H)∨(J.go i H∧∃ N:St→Hp→Prop,(∀ σ' H',N σ' H'→∃ m',m'<m∧W (i+1) m' σ' H')∧∀ x H',J.V2 i H x H'→g x σ H' fun σ2 H2=>tb { D with nx:=N,ct:=N,bk:=D.nx } σ2 H2)
def ac7 (wi:TI) (g:TG) (tb:TS):TS:=fun D σ H=>wi σ H fun J H1=>Yt J g tb D σ H1
structure avw (c:TT) (tb:TS) (D:Ends) (σ:St) (H:Hp):Prop where
 ex:ad6 c tb D σ H
theorem PI.weak {X:Cx}{tg iter:Expr}{wi:TI} (h:PI X tg iter wi) {pins:List (Addr × Obj)}{s:Shared}{σ:St}{H:Hp}{R R':It→Hp→Prop} (I:Inv X pins σ H s) (hw:wi σ H R) (hR:∀ J H1,R J H1→R' J H1) :
   wpAny (model X.prog X.w) X.A (eval iter X.env) (fun v s1=>wpAny (model X.prog X.w) X.A (pyIter v) (PIE X pins σ tg R') X.xe s1) X.xe s:=by
 refine fM (h pins s σ H R I hw) fun v s1 h1=>fM h1 fun itv s2 zq=>?_
 obtain⟨it,fp,tn,J,H',e,I',T,st,f,r⟩:=zq
 exact⟨it,fp,tn,J,H',e,I',T,st,f,hR J H' r⟩
section
variable {X:Cx}{scope:Scope}{x:Str}{M:List Str}{elt iter:Expr}{px pos:Pos}{te:TE}{wi:TI}
theorem GC {tg:Expr}{wi wi':TI} (h:PI X tg iter wi) (hw:∀ σ H R,wi' σ H R→∃ R0,wi σ H R0∧∀ J H1,R0 J H1→R J H1):PI X tg iter wi':=by
 intro pins s σ H R I q
 obtain⟨R0,q0,hR⟩:=hw σ H R q
 exact h.weak I q0 hR
theorem yT {tg:Expr}{body:List Stmt}{g:TG}{tb:TS} (hp:PassesOwn (model X.prog X.w) X.A X.env X.xe) (hc:X.calm=true) (hi:PI X tg iter wi) (hg:PG X tg g) (hb:qG X body tb)
   (hs:∀ x,foldedSetIterable iter X.env x=pure x:=by intro _;rfl):PS X (.For tg iter body [] pos) (ac7 wi g tb):=by
 intro pins s σ H D I h
 have q:=ad8 (pos:=pos) hp hc (wi:=fun σ0 H0 R0=>∃ R,wi σ0 H0 R∧∀ J H1,R J H1→R0 J H1) (GC hi fun σ H R ⟨R1,a,b⟩=>⟨R1,a,b⟩) hg hb hs pins s σ H D I
 exact q ⟨_,h,fun J H1 r=>r.ex⟩
end
theorem yR {K:PySem.W.Frag}{a:Addr}{xs:List V}{g:TG}{tb:TS}{D:Ends}{σ:St}{H:Hp} (Pv:Nat→St→Hp→Prop) (h0:Pv 0 σ H) (hl:∀ i σ H,i≤xs.length→Pv i σ H→cB K H a xs)
   (hs:∀ i x σ H,xs[i]? = some x→Pv i σ H→g x σ H fun σ2 H2=>tb { D with nx:=Pv (i+1),ct:=Pv (i+1),bk:=D.nx } σ2 H2) (hd:∀ σ H,Pv xs.length σ H→D.nx σ H):Yt (Itl K a) g tb D σ H:=⟨XJ Pv h0 hl hs hd⟩
theorem rK {lo:Int}{n:Nat}{g:TG}{tb:TS}{D:Ends}{σ:St}{H:Hp} (Pv:Nat→St→Hp→Prop) (h0:Pv 0 σ H)
   (hs:∀ i σ H,i<n→Pv i σ H→g (.int (lo+i)) σ H fun σ2 H2=>tb { D with nx:=Pv (i+1),ct:=Pv (i+1),bk:=D.nx } σ2 H2) (hd:∀ σ H,Pv n σ H→D.nx σ H):Yt (Itr lo n) g tb D σ H:=⟨V5 Pv h0 hs hd⟩
theorem zu {α:Type}{f:α→V}{l:List α}{i:Nat}{x:V} (h:(l.map f)[i]? = some x):∃ a,l[i]? = some a∧x=f a:=by
 rw [List.getElem?_map] at h
 cases e:l[i]? with
 | none=>rw [e] at h;cases h
 | some a=>rw [e] at h;exact⟨a,rfl,(Option.some.inj h).symm⟩
theorem Sx {K:PySem.W.Frag}{a b:String}{r:Bool} (h:(if (Value.type a == Value.type b)=true then some true else if PySem.W.kitMeta b=true then (fastBuiltinMro a).map (·.contains (Value.type b)) else none)=some r):PySem.W.kitOne K (.type a) (.type b)=some r:=h
end L2
namespace L2
open PySem PySem.Spec PyProof.Rows PySem.Calls
def TrD (h base:Heap) (e:Addr) (cls:Value) (dct:Option Addr) (fl:Value):Prop :=
 ∃ oe vs T oT ts,h.get? e=some oe∧(oe.cls=cls∧oe.dict=dct)∧oe.data=.fields vs∧vs[1]? = some (.ref T)∧base.get? T=none∧T≠e∧h.get? T=some oT∧oT.data=.fields ts∧ts[3]? = some fl
def p7 (base:Heap) (l:List Env) (e:Addr) (cls:Value) (dct:Option Addr) (fl:Value) (h:Heap):Prop :=
 base.StaysIn h∧base.get? e=none∧h.FunFrames base l∧TrD h base e cls dct fl
theorem p7.there {base h:Heap}{l:List Env}{e:Addr}{cls fl:Value}{dct:Option Addr} (x:p7 base l e cls dct fl h):∃ ob,h.get? e=some ob∧ob.cls=cls∧ob.dict=dct∧∃ vs,ob.data=.fields vs:=by
 obtain⟨_,_,_,oe,vs,_,_,_,he,hc,hd,_⟩:=x
 exact⟨oe,he,hc.1,hc.2,vs,hd⟩
theorem We (o:Obj) (g:Array Value→Array Value):(Obj.mapFields g o).dict=o.dict:=by
 obtain⟨a,b,c,d⟩:=o
 cases c <;> rfl
section
variable {M:Model}{A:Around}{E:Value→Shared→Prop}{s:Shared}
theorem Yu {base:Heap}{env:Env}{outer:List Env}{L e:Addr}{oe:Obj}{vs:Array Value}{head:Value}{hadNext:Bool}{Q:Unit→Shared→Prop}
   (hfr:A.frames=some (env::outer)) (hl:s.heap.FunFrames base (env::outer)) (hf:env.frame=some L)
   (he:s.heap.get? e=some oe) (hkb:base.StaysIn s.heap) (hen:base.get? e=none) (hd:oe.data=.fields vs) (hsz:1<vs.size)
   (h:∀ h',p7 base (env::outer) e oe.cls oe.dict (rawInt L) h'→s.heap.UpToSlots h'→Q () { s with heap:=h' }) :
   wpAny M A (do let a ← frameOf env;let pl ← entryPlaceOf L hadNext;let b ← EntryCells.newEntry head a .none (rawInt L) .none pl;setField (.ref e) 1 b) Q E s:=by
 have n1:e∉(env::outer).filterMap (·.frame):=fun hm=>by
   obtain⟨_,o,ho,z⟩:=hl.mem hm
   rw [he] at ho;injection ho with ho;subst ho;exact z vs hd
 refine wpAny_bind (wpAny_frameOf_fun hfr hl hf fun g1 p1=>?_)
 refine wpAny_bind (wpAny_entryPlaceOf fun pl hpl=>?_)
 unfold EntryCells.newEntry newFields
 refine wpAny_bind (wpAny_newObj_type ?_ (hpl.sizeOk5 _ _ _ _ _))
 have q1:g1.get? e=some oe:=(p1.2.1 e n1).trans he
 have k1:base.StaysIn g1:=fun b o z=>(p1.2.1 b fun hm=>by rw [(hl.mem hm).1] at z;cases z).trans (hkb b o z)
 generalize hT:({ cls:=.type "traceback",dict:=none,data:=.fields ([head,.ref L,.none,rawInt L,.none]++(if pl.isEmpty then List.replicate 6 Value.none else pl)).toArray }:Obj)=oT
 have q2:=Heap.get?_push_of_some (h:=g1) oT q1
 refine wpAny_setField q2 hd hsz (h _ ?_ ?_)
 all_goals
   have hne:g1.objs.size≠e:=Nat.ne_of_gt (Heap.lt_size q1)
   have d3:=Obj.data_mapFields hd (·.setIfInBounds 1 (Value.ref g1.objs.size))
   have keep:∀ b o,b≠e→g1.get? b=some o→((g1.push oT).update e (Obj.mapFields (·.setIfInBounds 1 (Value.ref g1.objs.size)))).get? b=some o:=fun b o z1 z2=>by
     rw [Heap.get?_update_other _ _ (Ne.symm z1)]
     exact Heap.get?_push_of_some _ z2
   have Yv:∀ b o,s.heap.get? b=some o→(∀ vs,o.data≠.fields vs)→b≠e:=fun b o z1 z2 q=>by
     rw [q,he] at z1;injection z1 with z1;subst z1;exact z2 vs hd
 · refine⟨fun b o z=>keep b o (fun q=>by rw [q,hen] at z;cases z) (k1 b o z),hen,hl.of_keeps fun b o z1 z2=>?_,?_⟩
   · obtain⟨sl,hs⟩:=p1.2.2 b o z1
     exact⟨_,keep b _ (Yv b o z1 z2) hs,rfl⟩
   · refine⟨_,_,g1.objs.size,oT,([head,.ref L,.none,rawInt L,.none]++(if pl.isEmpty then List.replicate 6 Value.none else pl)).toArray,Heap.get?_update_self _ q2 (Obj.isFreed_of_fields d3),⟨Obj.cls_mapFields _ _,We _ _⟩,d3,by simp [hsz],k1.fresh,hne,?_,by rw [← hT],by first | (simp;done) | (rcases hpl with rfl | ⟨_,_,_,_,_,_,_,rfl⟩ <;> simp)⟩
     rw [Heap.get?_update_other _ _ (Ne.symm hne)]
     exact Heap.get?_push_size g1 (by rw [← hT];rfl)
 · intro b o z1 z2
   obtain⟨sl,hs⟩:=p1.2.2 b o z1
   exact⟨sl,keep b _ (Yv b o z1 z2) hs⟩
theorem Hn {base:Heap}{env:Env}{outer:List Env}{L e:Addr}{oe:Obj}{vs:Array Value}{Q:Unit→Shared→Prop}
   (hfr:A.frames=some (env::outer)) (hl:s.heap.FunFrames base (env::outer)) (hf:env.frame=some L)
   (he:s.heap.get? e=some oe) (hkb:base.StaysIn s.heap) (hen:base.get? e=none) (hd:oe.data=.fields vs) (h1:vs[1]? = some .none)
   (h:∀ h',p7 base (env::outer) e oe.cls oe.dict (rawInt L) h'→s.heap.UpToSlots h'→Q () { s with heap:=h' }):wpAny M A (noteFrame (.ref e) env) Q E s:=by
 unfold noteFrame
 simp only [hf]
 refine wpAny_bind (wpAny_field he hd h1 ?_)
 rw [if_neg (by decide)]
 exact Yu hfr hl hf he hkb hen hd (Array.getElem?_eq_some_iff.mp h1).1 h
theorem NK {base:Heap}{env:Env}{outer:List Env}{L e:Addr}{cls:Value}{dct:Option Addr}{Q:Unit→Shared→Prop}
   (hfr:A.frames=some (env::outer)) (hf:env.frame=some L) (x:p7 base (env::outer) e cls dct .none s.heap)
   (h:∀ h',p7 base (env::outer) e cls dct (rawInt L) h'→s.heap.UpToSlots h'→Q () { s with heap:=h' }):wpAny M A (noteFrame (.ref e) env) Q E s:=by
 obtain⟨hkb,hen,hl,oe,vs,T,oT,ts,he,⟨hc,hdc⟩,hd,h1,hnT,hTe,hT,hdT,h3⟩:=x
 subst hc hdc
 unfold noteFrame
 simp only [hf]
 refine wpAny_bind (wpAny_field he hd h1 ?_)
 rw [if_pos (show (Value.ref T != Value.none)=true from by simp)]
 refine wpAny_bind (wpAny_field hT hdT h3 ?_)
 rw [if_neg (show ¬ ((Value.none == rawInt L)=true) from by simp [rawInt])]
 refine wpAny_bind (wpAny_setField hT hdT (Array.getElem?_eq_some_iff.mp h3).1 ?_)
 have oth:∀ b,b≠T→(s.heap.update T (Obj.mapFields (·.setIfInBounds 3 Value.none))).get? b=s.heap.get? b:=fun b z=>Heap.get?_update_other _ _ (Ne.symm z)
 have Yv:∀ b o,s.heap.get? b=some o→(∀ vs,o.data≠.fields vs)→b≠T:=fun b o z1 z2 q=>by
   rw [q,hT] at z1;injection z1 with z1;subst z1;exact z2 ts hdT
 refine Yu (oe:=oe) (vs:=vs) hfr (hl.of_keeps fun b o z1 z2=>⟨o,(oth b (Yv b o z1 z2)).trans z1,rfl⟩) hf ((oth e (Ne.symm hTe)).trans he)
   (fun b o z=>(oth b fun q=>by rw [q,hnT] at z;cases z).trans (hkb b o z)) hen hd (Array.getElem?_eq_some_iff.mp h1).1
   fun h' x1 x2=>h h' x1 fun b o z1 z2=>x2 b o ((oth b (Yv b o z1 z2)).trans z1) z2
theorem zx {base:Heap}{l:List Env}{e:Addr}{cls fl:Value}{dct:Option Addr}{Q:Unit→Shared→Prop} (x:p7 base l e cls dct fl s.heap)
   (h:∀ h',p7 base l e cls dct .none h'→s.heap.UpToSlots h'→Q () { s with heap:=h' }):wpAny M A (setFlight (.ref e) none) Q E s:=by
 obtain⟨hkb,hen,hl,oe,vs,T,oT,ts,he,hc,hd,h1,hnT,hTe,hT,hdT,h3⟩:=x
 have z3:3<ts.size:=(Array.getElem?_eq_some_iff.mp h3).1
 have oth:∀ b,b≠T→(s.heap.update T (Obj.mapFields (·.setIfInBounds 3 ((none:Option Addr).elim Value.none fun f=>rawInt f)))).get? b=s.heap.get? b :=
   fun b z=>Heap.get?_update_other _ _ (Ne.symm z)
 have Yv:∀ b o,s.heap.get? b=some o→(∀ vs,o.data≠.fields vs)→b≠T:=fun b o z1 z2 q=>by
   rw [q,hT] at z1;injection z1 with z1;subst z1;exact z2 ts hdT
 unfold setFlight
 refine wpAny_bind (wpAny_field he hd h1 ?_)
 rw [if_pos (show (Value.ref T != Value.none)=true from by simp)]
 refine wpAny_setField hT hdT z3 (h _ ⟨fun b o z=>(oth b fun q=>by rw [q,hnT] at z;cases z).trans (hkb b o z),hen,
   hl.of_keeps fun b o z1 z2=>⟨o,(oth b (Yv b o z1 z2)).trans z1,rfl⟩,?_⟩ fun b o z1 z2=>⟨o.slots,(oth b (Yv b o z1 z2)).trans z1⟩)
 exact⟨oe,vs,T,_,_,(oth e (Ne.symm hTe)).trans he,hc,hd,h1,hnT,hTe,Heap.get?_update_self _ hT (Obj.isFreed_of_fields (Obj.data_mapFields hdT _)),Obj.data_mapFields hdT _,by simp [z3]⟩
theorem p7.less {base h:Heap}{env:Env}{l:List Env}{e:Addr}{cls fl:Value}{dct:Option Addr} (x:p7 base (env::l) e cls dct fl h):p7 base l e cls dct fl h:=by
 obtain⟨a,b,⟨_,_,c⟩,d⟩:=x
 exact⟨a,b,c,d⟩
theorem Dp {base:Heap}{env:Env}{outer:List Env}{L e:Addr}{oe:Obj}{vs:Array Value}{Q:Unit→Shared→Prop}
   (hfr:A.frames=some (env::outer)) (hl:s.heap.FunFrames base (env::outer)) (hf:env.frame=some L)
   (he:s.heap.get? e=some oe) (hkb:base.StaysIn s.heap) (hen:base.get? e=none) (hd:oe.data=.fields vs) (h1:vs[1]? = some .none)
   (h:∀ h',p7 base outer e oe.cls oe.dict .none h'→s.heap.UpToSlots h'→Q () { s with heap:=h' }):wpAny M A (leaving env (.ref e)) Q E s:=by
 unfold leaving
 refine wpAny_bind (Hn hfr hl hf he hkb hen hd h1 fun g1 x1 u1=>?_)
 refine zx (s:={ s with heap:=g1 }) x1 fun g2 x2 u2=>?_
 exact h g2 x2.less (u1.trans u2)
theorem Qo {base:Heap}{env:Env}{outer:List Env}{L e:Addr}{cls:Value}{dct:Option Addr}{Q:Unit→Shared→Prop}
   (hfr:A.frames=some (env::outer)) (hf:env.frame=some L) (x:p7 base (env::outer) e cls dct .none s.heap)
   (h:∀ h',p7 base outer e cls dct .none h'→s.heap.UpToSlots h'→Q () { s with heap:=h' }):wpAny M A (leaving env (.ref e)) Q E s:=by
 unfold leaving
 refine wpAny_bind (NK hfr hf x fun g1 x1 u1=>?_)
 refine zx (s:={ s with heap:=g1 }) x1 fun g2 x2 u2=>?_
 exact h g2 x2.less (u1.trans u2)
end
end L2
namespace L2
open PySem PySem.Spec PyProof.Rows PySem.Calls
structure Xo (outer:List Env) (H H':Hp) (h B h1:Heap):Prop where
 U3:∀ b o,h.get? b=some o→H b=none→b∉frs outer→B.get? b=some o
 Ho:∀ b o,h.get? b=some o→b∉frs outer→∃ o',B.get? b=some o'
 slot:∀ b o,h.get? b=some o→H b=none→b∈frs outer→∃ sl,h1.get? b=some { o with slots:=sl }
 free:∀ b o,h.get? b=some o→H b=none→H' b=none
 tups:∀ b xs,H b=some (.tup xs)→H' b=some (.tup xs)
 j4:∀ b o u,H b=some (.jG o u)→H' b=some (.jG o u)
 mZ:∀ b ps,H b=some (.tbl ps)→∃ more,H' b=some (.tbl (ps++more))
theorem Xo.step {outer:List Env}{H H':Hp}{h B h1 h2 base:Heap} (x:Xo outer H H' h B h1) (fr:h1.FunFrames base outer) (up:h1.UpToSlots h2):Xo outer H H' h B h2 :=
 ⟨x.U3,x.Ho,fun b o e n hb=>by
   obtain⟨sl,q⟩:=x.slot b o e n hb
   obtain⟨_,o',ho',hd'⟩:=fr.mem hb
   rw [q] at ho';cases ho'
   obtain⟨sl',q'⟩:=up b _ q hd'
   exact⟨sl',q'⟩,x.free,x.tups,x.j4,x.mZ⟩
theorem Xo.un {outer:List Env}{H H':Hp}{h B h1:Heap} (x:Xo outer H H' h B h1) (st:B.StaysIn h1) (fr:h1.FunFrames B outer):Un (frs outer) [] H H' h h1 :=
 ⟨fun b o e n hb _=>st b o (x.U3 b o e n hb),fun b o e n hb _=>x.slot b o e n hb,fun b o e n _=>x.free b o e n,fun b o e _=>by
   by_cases hb:b∈frs outer
   · obtain⟨_,o',ho',_⟩:=fr.mem hb
     exact⟨o',ho'⟩
   · obtain⟨o',q⟩:=x.Ho b o e hb
     exact⟨o',st b o' q⟩,x.tups,x.j4,x.mZ⟩
def jf (P:Program) (w:World):Nr:=fun outer H s E e s' =>
 ∃ (ea:Addr) (cls:Value) (dct:Option Addr) (H':Hp) (B:Heap),e=.ref ea∧p7 B outer ea cls dct .none s'.heap∧s'.os=s.os∧AllBare s'.gens∧uh P w H' B∧Xo outer H H' s.heap B s'.heap∧E cls dct H'
section
variable {P:Program}{w:World}{K:PySem.W.Frag}{mg:Str→Option Value}{base:Heap}{N:List Str}{qual:Str}{scope:Scope}{f:Addr}{cdv:Value}{A:Around}{outer:List Env}{s:Shared}{H:Hp}{E:XK}
theorem aix:Passes (jf P w) (eF (jf P w) P w K mg base N qual scope f cdv A outer s H E) E:=by
 intro pins σ H1 s1 e s' I h
 obtain⟨ea,cls,dct,H',B,rfl,fl,os,bare,hok,x,hE⟩:=h
 show wpAny (model P w) _ (leaving (envOfC qual scope s.heap.objs.size f cdv) (.ref ea)) _ _ _
 have Yw:∀ b o,s.heap.get? b=some o→b∉frs outer→b∉frs (eF (jf P w) P w K mg base N qual scope f cdv A outer s H E).stack:=fun b o q n z=>by
   rcases List.mem_cons.mp (I.rE b z) with z | z
   · have:b<s.heap.objs.size:=Heap.lt_size q
     have a:=I.ok.above
     rw [← z] at a
     exact absurd (Nat.lt_of_lt_of_le this a) (Nat.lt_irrefl _)
   · exact n z
 refine Qo (outer:=outer) I.ok.frames rfl fl fun h2 Wf up=>?_
 have x2:=x.step fl.2.2.1 up
 refine⟨ea,cls,dct,H',B,rfl,Wf,os.trans I.os,bare,hok,⟨fun b o q n hb=>?_,fun b o q hb=>?_,fun b o q n hb=>?_,fun b o q n=>?_,fun b xs q=>x.tups b xs (I.base.tups b xs q),fun b o u q=>x.j4 b o u (I.base.j4 b o u q),fun b ps q=>?_⟩,hE⟩
 · exact x.U3 b o (I.base.keep b o q n hb (fun z=>nomatch z)) (I.base.free b o q n (fun z=>nomatch z)) (Yw b o q hb)
 · obtain⟨o',q'⟩:=I.base.there b o q (fun z=>nomatch z)
   exact x.Ho b o' q' (Yw b o q hb)
 · obtain⟨sl,q'⟩:=I.base.slot b o q n hb (fun z=>nomatch z)
   obtain⟨sl',q2⟩:=x2.slot b _ q' (I.base.free b o q n (fun z=>nomatch z)) (by
     obtain⟨env,he,hf⟩:=List.mem_filterMap.mp hb
     exact List.mem_filterMap.mpr ⟨env,List.mem_cons_of_mem _ he,hf⟩)
   exact⟨sl',q2⟩
 · obtain⟨o',q'⟩:=I.base.there b o q (fun z=>nomatch z)
   exact x.free b o' q' (I.base.free b o q n (fun z=>nomatch z))
 · obtain⟨m1,e1⟩:=I.base.mZ b ps q
   obtain⟨m2,e2⟩:=x.mZ b _ e1
   exact⟨m1++m2,by rw [e2,Array.append_assoc]⟩
end
section
variable {P:Program}{w:World}{K:PySem.W.Frag}{mg:Str→Option Value}{base:Heap}
theorem iu.okX {x qual:Str}{st:Stmt}{f:Addr}{fd:FuncData}{N ps:List Str}{k:Nat}{sp:Sp} (F:iu K x qual st f fd) (S:au N ps (aa st)) (len:∀ vs H Q E,sp vs H Q E→vs.length=ps.length)
   (hbody:∀ (cdv:Value) (A:Around) (outer:List Env) (s:Shared) (H:Hp) (vs:List V) (Q:VK) (E:XK),gK k (A.deeper (envOfC qual (aa st) s.heap.objs.size f cdv))→sp vs H Q E →
     ∃ t,qG (eF (jf P w) P w K mg base N qual (aa st) f cdv A outer s H E) (aj st) t∧t { nx:=fun _ H'=>Q .non H',rt:=Q } (start N vs) H):aN P w K mg base (jf P w) (k+1) f fd ps sp:=by
 obtain⟨oc,od,kV,doc,pm,an,cdv,ct,osl,rfl,lk,hcd⟩:=F.ex
 exact UJ lk hcd S len fun A outer s H vs Q E hr hsp=>hbody cdv A outer s H vs Q E hr hsp
end
end L2
namespace L2
open PySem PySem.Spec PyProof.Rows PySem.Calls PySem.W PySem.Builtin PySem.Builtin.ObjectAttr PySem.Builtin.Getset_descriptor
section
variable {prog:Program}{w:World}{A:Around}{E:Value→Shared→Prop}{s:Shared}{K:PySem.W.Frag}{x D:Addr}
def ClsAt (h:Heap) (x D:Addr):Prop:=∃ o,h.get? x=some o∧o.cls=.ref D
theorem ClsAt.type {M:Model}{h:Heap} (p:ClsAt h x D):Looks M h (typeOf (.ref x)) (.ref D):=by
 obtain⟨o,e,c⟩:=p
 exact c ▸ (Looks.ld e).andThen .now
theorem SJ {M:Model}{h:Heap}{name:Str}{a g:Value} (X:K.In h) (hf:findIn K (.ref D) name=some (some a)) (hg:specialIn K a "__get__" = some (some g)) (ht:takesIn K a=some true):Looks M h (find (.ref x) (.ref D) name) (.bind g a):=by
 have l1:=looks_findIn (M:=M) X hf
 have l2:Looks M h (getOf (some a)) (some g):=looks_specialIn X hg
 have l3:=looks_takesIn (M:=M) X ht
 refine l1.andThen (l2.andThen ?_)
 have l4:Looks M h (dataDescriptor? (some a) (some g)) (some (g,a)):=l3.andThen .now
 exact l4.andThen (Looks.tag .now)
structure rM (K:PySem.W.Frag) (D:Addr):Prop where
 ga:findIn K (.ref D) "__getattribute__" = some (some (.builtin "BaseException.__getattribute__"))
 gk:findIn K (.ref D) "__getattr__" = some none
 cl:(clsIn K D).isSome=true
 ha:findIn K (.ref D) "__class__" = some (some (.builtin "object.__class__"))
 hn:specialIn K (.builtin "object.__class__") "__get__" = some (some (.builtin "getset_descriptor.__get__"))
 tk:takesIn K (.builtin "object.__class__")=some true
 mo:mroIn K D (.type "object")=some true
 mb:mroIn K D (.type "BaseException")=some true
theorem class_get {R:Result→Shared→Prop} (c:rM K D) (X:K.In s.heap) (p:ClsAt s.heap x D) (q:R (.ok (.ret (.ref D))) s) :
   codeAny (model prog w) A (.call (.builtin "getset_descriptor.__get__") ⟨[.builtin "object.__class__",.ref x,.ref D],[]⟩) R s:=by
 obtain⟨hh,g,d,t,os⟩:=s
 obtain⟨o,eo,ec⟩:=id p
 have t0:=p.type (M:=model prog w)
 have l1:=looks_mroIn (M:=model prog w) X c.mo
 have avx:=KF.args_gs (Value.builtin "object.__class__") (Value.ref x) (Value.ref D)
 refine codeAny_call_builtin KF.slot_gs.plain KF.entry_gs
   (KF.slot_gs.check _ _ _ _ _ _ _ _ KF.type_class avx ?_)
 unfold Builtin.«getset_descriptor.__get__»
   descrGet
 rw [dga_obj];refine wpAny_bind (wpAny_pure ?_)
 unfold descrGetter descrCheckInstance
   descrNameAndClass isInstance
 simp only [KF.owner_class]; (repeat lk)
 refine⟨Code.quiet_builtin _
   (by symm),codeAny_builtin KF.entry_class ?_⟩
 unfold Builtin.«object.__class__»
   shownTypeOf
 (repeat lk);exact q
theorem SM {tk:Tok}{R:Result→Shared→Prop} (c:rM K D) (X:K.In s.heap) (p:ClsAt s.heap x D) (q:R (.ok (.ret (.ref D))) s) :
   codeAny (model prog w) A (.call (.builtin "BaseException.__getattribute__") ⟨[.ref x,.str "__class__" tk],[]⟩) R s:=by
 obtain⟨hh,g,d,t,os⟩:=s
 obtain⟨o,eo,ec⟩:=id p
 have t0:=p.type (M:=model prog w)
 have lb:=looks_mroIn (M:=model prog w) X c.mb
 have f0:=SJ (x:=x) (M:=model prog w) X c.ha c.hn c.tk
 have hk:builtinKind "BaseException.__getattribute__" = some .slot:=by symm
 have hsplit:splitId "BaseException.__getattribute__" = some ("BaseException","__getattribute__"):=by symm
 have ha:=F.args_bexc_ga (.ref x) (.str "__class__" tk)
 refine codeAny_call_builtin F.excAttr_ValueError.ga.plain F.entry_bexc_ga ?_
 simp only [checkBuiltinCall,hk,hsplit]
 unfold isInstance
 refine wpAny_bind ?_
 (repeat (first | (with_reducible refine wpAny_call (class_get c X p ?_)) | lk))
 exact q
theorem Yx {Q:Option Value→Shared→Prop} (c:rM K D) (X:K.In s.heap) (p:ClsAt s.heap x D) (q:Q (some (.ref D)) { s with toks:=s.toks+1 }):wpAny (model prog w) A (getAttr? (.ref x) "__class__") Q E s:=by
 obtain⟨hh,g,d,t,os⟩:=s
 obtain⟨o,eo,ec⟩:=id p
 have t0:=p.type (M:=model prog w)
 have t1:=looks_findIn (M:=model prog w) X c.ga
 have f1:=looks_findIn (M:=model prog w) X c.gk
 have f3:=F.excAttr_ValueError.ga.bind (.ref x)
 unfold getAttr? getAttrBy? getAttrBy
 refine wpAny_bind (wpAny_mkText (wpAny_bind (wpAny_attempt (wpAny_holding (wpAny_bind (t0.at (wpAny_bind (t1.at ?_))))))))
 show wpAny _ _ (getAttrByItsOwn _ _ _ _ _ _) _ _ _
 unfold getAttrByItsOwn hookBefore
 refine wpAny_bind (f1.at (wpAny_bind (wpAny_attempt (wpAny_holding ?_))))
 show wpAny _ _ (boundAndCalled _ _ _) _ _ _
 unfold boundAndCalled
 rw [f3]
 refine wpAny_bind (wpAny_pure (wpAny_call ?_))
 refine SM c (s:=⟨hh,g,d,t+1,os⟩) X p ?_
 exact wpAny_pure (wpAny_pure q)
theorem U4 (c:rM K D):KitX K (.ref x) (.ref D) (fun h=>ClsAt h x D) where
 ty:=fun _ _ _ p=>p.type
 it:=fun _ _ X _=>by
   obtain⟨cd,e⟩:=Option.isSome_iff_exists.mp c.cl
   unfold clsIn at e
   split at e
   · rename_i c' d' cd' sl' ho
     intro A' Q' E' s' k q
     unfold isType loadHead
     exact wpAny_bind (wpAny_loadPart (k _ _ (X _ _ ho)) (wpAny_pure q))
   · cases e
 ne:=fun h tp dd its n sl X htp=>by
   obtain⟨cd,e⟩:=Option.isSome_iff_exists.mp c.cl
   refine Bool.eq_false_iff.mpr fun q=>?_
   have z:D=tp:=Value.ref.inj (beq_iff_eq.mp q)
   subst z
   unfold clsIn at e
   split at e
   · rename_i c' d' cd' sl' ho
     have z:=(X _ _ ho).symm.trans htp
     cases z
   · cases e
 ca:=fun X p k=>Yx c X p k
end
def aej (a D:Addr):HO:=.ext fun h=>ClsAt h a D
def J6 (a D dx:Addr):HO:=.ext fun h=>∃ o,h.get? a=some o∧o.cls=.ref D∧o.dict=some dx∧∃ vs,o.data=.fields vs
def Qp (a D:Addr):Option Addr→HO
 | none=>aej a D
 | some dx=>J6 a D dx
inductive TyE (K:PySem.W.Frag) (H:Hp):V→Value→Prop where
 | old {x:V}{t:Value} (h:aH K H x t):TyE K H x t
 | exc {a D:Addr} (h:H a=some (aej a D)) (c:rM K D):TyE K H (.ref a) (.ref D)
 | tpl {a:Addr}{xs:List V} (h:jJ K H a xs):TyE K H (.ref a) (.type "tuple")
 | m7 {a D dx:Addr} (h:H a=some (J6 a D dx)) (c:rM K D):TyE K H (.ref a) (.ref D)
def abP:V→Value
 | .ref a=>.ref a
 | .ty n=>.type n
 | _=>.none
def U5:V→Bool
 | .ref _=>true
 | .ty _=>true
 | _=>false
section
variable {X:Cx}{pins:List (Addr × Obj)}{σ:St}{H:Hp}{s:Shared}{A:Around}{E:Value→Shared→Prop}{Q:Value→Shared→Prop}{c:Value}{b:Bool}
theorem Yy {x:V}{u t:Value} (I:Inv X pins σ H s) (rx:RelV x u) (ty:TyE X.K H x t):(∃ P:Heap→Prop,KitX X.K u t P∧P s.heap)∧u≠.builtin "__main__.__loader__#opaque":=by
 cases ty with
 | @tpl a xs h =>
   cases (show u=Value.ref a from rx)
   obtain⟨its,r,pl,hz⟩:=I.tuple h
   obtain⟨o,h1,h2,_⟩:=pl
   exact⟨⟨_,kitx_tuple,⟨o,h1,h2⟩⟩,fun z=>nomatch z⟩
 | old ty =>
   cases ty with
   | non=>cases (show u=Value.none from rx);exact⟨⟨_,kitx_none,True.intro⟩,fun z=>nomatch z⟩
   | bl y=>cases (show u=Value.bool y from rx);exact⟨⟨_,kitx_bool,True.intro⟩,fun z=>nomatch z⟩
   | int i=>obtain⟨t,q⟩:=(show ∃ t,u=Value.int i t from rx);cases q;exact⟨⟨_,kitx_int,True.intro⟩,fun z=>nomatch z⟩
   | str y=>obtain⟨t,q⟩:=(show ∃ t,u=Value.str y t from rx);cases q;exact⟨⟨_,kitx_str,True.intro⟩,fun z=>nomatch z⟩
   | flt y=>obtain⟨t,q⟩:=(show ∃ t,u=Value.float y t from rx);cases q;exact⟨⟨_,kitx_float,True.intro⟩,fun z=>nomatch z⟩
   | @lst a xs ea =>
     cases (show u=Value.ref a from rx)
     obtain⟨_,_,n,_,h1⟩:=(show bw X.prog X.w H s.heap a (.lst xs) from I.hok a _ ea)
     exact⟨⟨_,kitx_list,⟨_,h1,rfl⟩⟩,fun z=>nomatch z⟩
   | @jG a ob xs ea =>
     cases (show u=Value.ref a from rx)
     obtain⟨_,_,_,n,_,h1⟩:=(show bw X.prog X.w H s.heap a (.jG ob (.lst xs)) from I.hok a _ ea)
     exact⟨⟨_,kitx_list,⟨_,h1,rfl⟩⟩,fun z=>nomatch z⟩
   | @tup a xs ea =>
     cases (show u=Value.ref a from rx)
     obtain⟨_,_,_,p⟩:=(show bw X.prog X.w H s.heap a (.tup xs) from I.hok a _ ea)
     obtain⟨o,h1,h2,_⟩:=p
     exact⟨⟨_,kitx_tuple,⟨o,h1,h2⟩⟩,fun z=>nomatch z⟩
   | @dK a kvs ea =>
     cases (show u=Value.ref a from rx)
     obtain⟨_,_,vs,_,p⟩:=(show bw X.prog X.w H s.heap a (.dK kvs) from I.hok a _ ea)
     obtain⟨o,es,ep,h1,h2,_⟩:=p
     exact⟨⟨_,kitx_dict,⟨o,h1,h2.1⟩⟩,fun z=>nomatch z⟩
   | @dT a kvs ea =>
     cases (show u=Value.ref a from rx)
     obtain⟨_,_,xs,_,o,es,ep,h1,h2,_⟩:=(show bw X.prog X.w H s.heap a (.dT kvs) from I.hok a _ ea)
     exact⟨⟨_,kitx_dict,⟨o,h1,h2.1⟩⟩,fun z=>nomatch z⟩
   | @ins a C dx fs ea cl ha hn htk hm =>
     cases (show u=Value.ref a from rx)
     obtain⟨mA,O,_⟩:=Gw I.hok ea
     obtain⟨od,J,_⟩:=O.look
     exact⟨⟨_,kitx_own (cl.get _) cl.hd ha hn htk hm,J⟩,fun z=>nomatch z⟩
 | @exc a D h c =>
   cases (show u=Value.ref a from rx)
   obtain⟨p,_⟩:=(show bw X.prog X.w H s.heap a (aej a D) from I.hok a _ h)
   exact⟨⟨_,U4 c,p⟩,fun z=>nomatch z⟩
 | @m7 a D dx h c =>
   cases (show u=Value.ref a from rx)
   obtain⟨⟨o,e,k,_⟩,_⟩:=(show bw X.prog X.w H s.heap a (J6 a D dx) from I.hok a _ h)
   exact⟨⟨_,U4 c,⟨o,e,k⟩⟩,fun z=>nomatch z⟩
theorem Qq {x:V}{u:Value} (h:U5 x=true) (r:RelV x u):u=abP x:=by
 cases x with
 | ref a=>exact r
 | ty n=>exact r
 | _=>cases h
theorem Ms:∀ {xs:List V}{us:List Value},xs.all U5=true→Vals xs us→us=xs.map abP
 | [],_,_,.nil=>rfl
 | x::xs,_,h,.cons r rs=>by
   rw [List.all_cons,Bool.and_eq_true] at h
   rw [Qq h.1 r,Ms h.2 rs];rfl
theorem yH:d8 X (.builtin "isinstance") (fun xs H Q=>∃ x y t b,xs=[x,y]∧U5 y=true∧TyE X.K H x t∧PySem.W.kitOne X.K t (abP y)=some b∧Q (.bl b) H):=by
 intro pins s σ H xs us Q I r h
 obtain⟨x,y,t,b,rfl,hc,ty,e,q⟩:=h
 obtain⟨u,w',rfl,rx,ry⟩:=vals2 r
 obtain rfl:=Qq hc ry
 obtain⟨⟨P,Z,p⟩,nb⟩:=Yy I rx ty
 exact kia_one Z I.ug p e nb fun tk=>⟨.bl b,H,I.tok _,rfl,q⟩
theorem Mt:d8 X (.builtin "isinstance") (fun xs H Q=>∃ x tp cs t b,xs=[x,.ref tp]∧H tp=some (.tup cs)∧cs.all U5=true∧TyE X.K H x t∧PySem.W.kitAny X.K t (cs.map abP)=some b∧Q (.bl b) H):=by
 intro pins s σ H xs us Q I r h
 obtain⟨x,tp,cs,t,b,rfl,ht,hc,ty,e,q⟩:=h
 obtain⟨u,w',rfl,rx,ry⟩:=vals2 r
 cases ry
 obtain⟨⟨P,Z,p⟩,nb⟩:=Yy I rx ty
 obtain⟨_,its,rv,o,ho,hcl,n,hd⟩:=(show bw X.prog X.w H s.heap tp (.tup cs) from I.hok tp _ ht)
 obtain rfl:=Ms hc rv
 obtain⟨oc,od,oda,osl⟩:=o
 dsimp only at hcl hd
 subst hcl hd
 exact kia_tup Z I.ug p ho e nb fun tk=>⟨.bl b,H,I.tok _,rfl,q⟩
end
end L2
namespace L2
open PySem PySem.Spec PyProof.Rows PySem.Calls PySem.W
abbrev fO:List Value:=[.type "ValueError",.type "Exception",.type "BaseException",.type "object"]
section
variable {P:Program}{w:World}{K:PySem.W.Frag}{mg:Str→Option Value}{base:Heap}{N:List Str}{qual:Str}{scope:Scope}{f:Addr}{cdv:Value}{A:Around}{outer:List Env}{s:Shared}{H:Hp}{E:XK}
end
def Yz (X:Cx) (pins:List (Addr × Obj)) (σ:St) (E:XK) (e:Value) (s':Shared):Prop:=∃ H1 s1,Inv X pins σ H1 s1∧jf X.prog X.w X.stack H1 s1 E e s'
abbrev TEx:=St→Hp→VK→XK→Prop
abbrev TSx:=Ends→(St→XK)→St→Hp→Prop
def PEx (X:Cx) (e:Expr) (t:TEx):Prop :=
 ∀ (pins:List (Addr × Obj)) (s:Shared) (σ:St) (H:Hp) (Q:VK) (E:XK),Inv X pins σ H s→t σ H Q E→wpAny (model X.prog X.w) X.A (eval e X.env) (EP X pins σ Q) (Yz X pins σ E) s
def PSx (X:Cx) (st:Stmt) (t:TSx):Prop :=
 ∀ (pins:List (Addr × Obj)) (s:Shared) (σ:St) (H:Hp) (D:Ends) (E:St→XK),Inv X pins σ H s→t D E σ H→wpAny (model X.prog X.w) X.A (exec st X.env) (SP X pins D) (fun e s'=>∃ σ',Yz X pins σ' (E σ') e s') s
def aiy (X:Cx) (st:List Stmt) (t:TSx):Prop :=
 ∀ (pins:List (Addr × Obj)) (s:Shared) (σ:St) (H:Hp) (D:Ends) (E:St→XK),Inv X pins σ H s→t D E σ H→wpAny (model X.prog X.w) X.A (execs st X.env) (SP X pins D) (fun e s'=>∃ σ',Yz X pins σ' (E σ') e s') s
section
variable {X:Cx}{k:Nat}{f C:Addr}{fd:FuncData}{ps:List Str}{sp:Sp}{vR:List V}{ds:List Value}{x m:Str}{p pos apos:Pos}{e o:Expr}{es:List Expr}{ta:TE}{t:TA}
theorem PA.RT {es:List Expr}{t:TA} (h:PA X.RT es t) (E:Value→Shared→Prop) {pos:Pos}{pins:List (Addr × Obj)}{s:Shared}{σ:St}{H:Hp}{Q:List V→Hp→Prop} (I:Inv X pins σ H s) (q:t σ H Q) :
   wpAny (model X.prog X.w) X.A (spliced (backTo pos (starEach es X.env))) (AP X pins σ Q) E s :=
 wpAny_mono (h pos pins s σ H Q (I.wish _) q) (fun _ _ ⟨vs,H',I',r,q⟩=>⟨vs,H',I'.iB,r,q⟩) fun _ _ z=>False.elim z
theorem abQ {pins:List (Addr × Obj)}{σ:St}{H:Hp}{s:Shared}{Q:VK}{E:XK}{us:List Value}{vs:List V} (F:aN X.prog X.w X.K X.mg X.base (jf X.prog X.w) k f fd ps sp) (hr:gK k X.A) (hb:Binds X.K fd ps ds) (hd:Vals vR ds)
   (I:Inv X pins σ H s) (r:Vals vs us) (h:sp (vs++vR) H Q E):wpAny (model X.prog X.w) X.A (call (.ref f) us) (EP X pins σ Q) (Yz X pins σ E) s:=by
 have r2:Vals (vs++vR) (us++ds):=r.append hd
 have hl:(us++ds).length=ps.length:=by rw [← r2.length];exact F.len _ _ _ _ h
 refine wpAny_call (codeAny_mono (F.run X.A X.stack s H ⟨us,[]⟩ (us++ds) (vs++vR) Q E hr I.env0 (hb s us I.ug hl) r2 h) fun r s' hq=>?_)
 cases r with
 | error e=>exact⟨H,s,I,hq⟩
 | ok fl =>
   cases fl with
   | ret u=>exact I.after hq
   | next=>exact False.elim hq
   | brk=>exact False.elim hq
   | cont=>exact False.elim hq
def ael (sp:Sp) (vR:List V) (t:TA):TEx:=fun σ H Q E=>t σ H fun vs H1=>sp (vs++vR) H1 Q E
theorem YB (F:aN X.prog X.w X.K X.mg X.base (jf X.prog X.w) k f fd ps sp) (hr:gK k X.A) (hg:Gl X x) (hm:X.mg x=some (.ref f)) (hk:PySem.W.keepIn X.K (.ref f)=true) (hb:Binds X.K fd ps ds) (hd:Vals vR ds)
   (ha:PA X.RT (e::es) t) (hdb:(x == ("__debug__":Str))=false:=by decide) (he:starEach (e::es) X.env=(false,eval e X.env)::starEach es X.env:=by rfl) (hpl:(backTo pos (starEach es X.env)).any (·.1)=false:=by rfl) :
   PEx X (.Call (.Name x p) (e::es) [] pos) (ael sp vR t):=by
 intro pins s σ H Q E I h
 refine wpAny_Call_Name_kw (xZ I hg hm ?_ hdb)
 refine PySem.W.callWith_K (h₀:=X.base) I.ok.mod.kin hk (wpAny_mono (ha.RT (Yz X pins σ E) I h) (fun us s1 ⟨vs,H1,I1,r,q⟩=>⟨I1.ug,?_⟩) fun _ _ z=>z) he hpl
 exact abQ F hr hb hd I1 r q
def aiz (i:Nat) (te:TEx):TSx:=fun D E σ H=>te σ H (fun v H1=>D.nx (σ.set i (some v)) H1) (E σ)
theorem abR {i:Nat}{x:Str}{e:Expr}{te:TEx}{pos':Pos} (hN:X.N.Nodup) (hi:X.N[i]? = some x) (hx:Loc X.env.scope x) (he:PEx X e te) (hs:swapsWith e (some (.Name x pos')) pos.line X.env=pure false:=by rfl)
   (hf:X.fn x=true∨X.env.scope.names.lookup x=some .local:=by first | exact .inl rfl | exact .inr rfl | assumption):PSx X (.Assign [.Name x pos'] e pos) (aiz i te):=by
 intro pins s σ H D E I h
 refine wpAny_Assign_Name (wpAny_mono (he pins s σ H _ _ I h) (fun v s1 ⟨y,H1,I1,r1,q1⟩=>?_) fun e s' z=>⟨σ,z⟩) hs
 exact zb I1 hN hi hx r1 (fun s2 I2=>⟨_,H1,I2,q1⟩) hf
theorem abS {st:Stmt}{t:TSx} (h1:PSx X st t):aiy X [st] t:=by
 intro pins s σ H D E I h
 refine wpAny_execs_cons (wpAny_mono (h1 pins s σ H D E I h) (fun f s1 q=>?_) fun _ _ z=>z)
 cases f with
 | next=>exact wpAny_execs_nil q
 | ret v=>exact q
 | brk=>exact q
 | cont=>exact q
end
def hcx (X:Cx) (e:Addr):Cx:={ X with A:=X.A.mark (some (.ref e)),calm:=false,xe:=fun _ _=>False }
theorem YC {X:Cx}{e:Addr}{pins:List (Addr × Obj)}{σ:St}{H:Hp}{s:Shared} (I:Inv X pins σ H s):Inv (hcx X e) pins σ H s:=by
 obtain⟨ok,os,bare,bs,loc,cell,free,jH,pin,hok,len⟩:=I
 exact⟨⟨ok.mod,ok.kind,ok.glob,ok.blt,ok.above,ok.inj,ok.has,ok.cab,fun z=>Bool.noConfusion (show false=true from z),ok.frames,ok.stk,ok.exf,ok.bs,ok.Xu,ok.V1,ok.Xv,ok.wK,ok.frf⟩,os,bare,bs,loc,cell,free,jH,pin,hok,len⟩
theorem GD {X:Cx}{e:Addr} (ok:X.Ok) {pins:List (Addr × Obj)}{σ:St}{H:Hp}{s:Shared} (I:Inv (hcx X e) pins σ H s):Inv X pins σ H s:=by
 obtain⟨_,os,bare,bs,loc,cell,free,jH,pin,hok,len⟩:=I
 exact⟨ok,os,bare,bs,loc,cell,free,jH,pin,hok,len⟩
theorem aem {X:Cx}{e:Addr} (ok:X.Ok) {pins:List (Addr × Obj)}{D:Ends}{f:Flow}{s:Shared} (h:SP (hcx X e) pins D f s):SP X pins D f s:=by
 cases f with
 | next=>obtain⟨σ',H',I,q⟩:=h;exact⟨σ',H',GD ok I,q⟩
 | brk=>obtain⟨σ',H',I,q⟩:=h;exact⟨σ',H',GD ok I,q⟩
 | cont=>obtain⟨σ',H',I,q⟩:=h;exact⟨σ',H',GD ok I,q⟩
 | ret u=>obtain⟨v,σ',H',I,r,q⟩:=h;exact⟨v,σ',H',GD ok I,r,q⟩
section
variable {X:Cx}{body suite:List Stmt}{b₀:Stmt}{x:Str}{C:Addr}{np hpos pos:Pos}{tb:TSx}{th:TS}
end
end L2
namespace L2
open PySem PySem.Spec PyProof.Rows PySem.Calls PySem.W
section
variable {X:Cx}{pins:List (Addr × Obj)}{σ:St}{H:Hp}{s:Shared}
theorem Inv.YD {a:Addr}{o:HO} (I:Inv X pins σ H s) (f0:H a=none) (old:∀ b ob,X.s₀.heap.get? b=some ob→b≠a) (f1:X.env.locals≠a) (f4:∀ x c,X.env.cells.lookup x=some c→c≠a) (f5:∀ p∈X.pn++pins,p.1≠a)
   (new:bw X.prog X.w (upd H a o) s.heap a o):Inv X pins σ (upd H a o) s:=by
 refine⟨I.ok,I.os,I.bare,⟨I.base.keep,I.base.slot,fun b ob e n hx=>?_,I.base.there,fun b xs e=>?_,fun b ob u e=>?_,fun b ps e=>?_⟩,I.loc,I.cell,?_,fun x c e=>?_,fun p hp=>?_,fun b u e=>?_,I.len⟩
 · rw [zL (old b ob e)];exact I.base.free b ob e n hx
 · have q:=I.base.tups b xs e;rw [zL (zI q f0)];exact q
 · have q:=I.base.j4 b ob u e;rw [zL (zI q f0)];exact q
 · obtain⟨more,q⟩:=I.base.mZ b ps e;exact⟨more,by rw [zL (zI q f0)];exact q⟩
 · rw [zL f1];exact I.free
 · rw [zL (f4 x c e)];exact I.jH x c e
 · obtain⟨e,n,ne,nf,d⟩:=I.pin p hp
   exact⟨e,by rw [zL (f5 p hp)];exact n,ne,nf,d⟩
 · by_cases hb:b=a
   · subst hb;rw [zB] at e;cases e;exact new
   · rw [zL hb] at e
     exact (I.hok b u e).stay (fun c v _ q=>q) (fun c q=>by rw [zL (zI q f0)];exact q) fun c xs q=>by rw [zL (zI q f0)];exact q
theorem vH {M:Model}{A:Around}{E:Value→Shared→Prop}{j:Nat}{n:Str}{pos:Pos}{Q:Unit→Shared→Prop} (I:Inv X pins σ H s) (hN:X.N.Nodup) (hj:X.N[j]? = some n) (hl:X.env.scope.names.lookup n=some .local)
   (h:∀ s',Inv X pins (σ.set j none) H s'→Q () s'):wpAny M A (do bindName X.env n .none;unbindBehindTheSuite X.env n pos) Q E s:=by
 obtain⟨m,hn,lo⟩:=id I.loc
 have avy:j<σ.length:=by rw [I.len];exact (List.getElem?_eq_some_iff.mp hj).1
 refine wpAny_nameGoes_keeps hl hn (by rw [I.ok.kind];rfl) fun h' v hn' sb=>h _ ?_
 have Xw:=I.Xw
 have SN:∀ b o,X.s₀.heap.get? b=some o→b≠X.env.locals:=fun b o e=>Nat.ne_of_lt (Nat.lt_of_lt_of_le (Heap.lt_size e) I.ok.above)
 refine⟨I.ok,I.os,I.bare,⟨fun b o e n hb hx=>?_,fun b o e n hb hx=>?_,I.base.free,fun b o e hx=>?_,I.base.tups,I.base.j4,I.base.mZ⟩,⟨_,hn',fun i y v' e1 e2 e3=>?_⟩,fun y c e=>?_,I.free,I.jH,fun p hp=>?_,fun b ob e=>?_,?_⟩
 · exact (sb.2 b (SN b o e)).trans (I.base.keep b o e n hb hx)
 · obtain⟨sl,q⟩:=I.base.slot b o e n hb hx
   exact⟨sl,(sb.2 b (SN b o e)).trans q⟩
 · obtain⟨o',q⟩:=I.base.there b o e hx
   exact⟨o',(sb.2 b (SN b o e)).trans q⟩
 · by_cases hij:i=j
   · subst hij
     rw [List.getElem?_set_self avy] at e2
     cases e2
   · rw [List.getElem?_set_ne (Ne.symm hij)] at e2
     obtain⟨u',r',q⟩:=lo i y v' e1 e2 e3
     refine⟨u',r',?_⟩
     rcases q with ⟨k,e⟩ | ⟨k,c,e,z⟩
     · refine .inl ⟨k,?_⟩
       have hy:y≠n:=fun e=>hij (Hb hN e1 (e ▸ hj))
       simp [hy,e]
     · exact .inr ⟨k,c,e,z.sameBut sb (Xw y c e)⟩
 · obtain⟨w',z⟩:=I.cell y c e
   exact⟨w',z.sameBut sb (Xw y c e)⟩
 · obtain⟨e,n,ne,nf,d⟩:=I.pin p hp
   exact⟨(sb.2 p.1 ne).trans e,n,ne,nf,d⟩
 · refine (I.hok b ob e).stay (fun c w' hc q=>(sb.2 c ?_).trans q) (fun _ q=>q) fun _ _ q=>q
   rintro rfl
   rcases hc with z | z
   · rw [← z,I.free] at e;cases e
   · rw [I.free] at z;cases z
 · rw [List.length_set];exact I.len
end
section
variable {X:Cx}{body suite:List Stmt}{b₀:Stmt}{x n:Str}{C:Addr}{np hpos pos:Pos}{tb:TSx}{th:TS}{j:Nat}
def YF (D:Ends) (j:Nat):Ends:={ nx:=fun σ H=>D.nx (σ.set j none) H,rt:=D.rt,bk:=fun σ H=>D.bk (σ.set j none) H,ct:=fun σ H=>D.ct (σ.set j none) H }
def aen (K:PySem.W.Frag) (C:Addr) (j:Nat) (tb:TSx) (th:TS):TS:=fun D σ H=>tb D (fun σ' cls dct H'=>∃ G:Addr,cls=.ref G∧PySem.W.exmOne K cls (.ref C)=some true∧∀ ea,H' ea=none→th (YF D j) (σ'.set j (some (.ref ea))) (upd H' ea (Qp ea G dct))) σ H
theorem YG (hN:X.N.Nodup) (hj:X.N[j]? = some n) (hl:X.env.scope.names.lookup n=some .local) (hex:X.ex=[]) (hst:X.stack=X.env::X.outer) (hfr:X.env.frame=some X.env.locals) (hb:aiy X body tb) (hg:Gl X x) (hm:X.mg x=some (.ref C))
   (hh:∀ ea,qG (hcx X ea) (b₀::suite) th) (hd:(x == ("__debug__":Str))=false:=by decide) :
   PS X (.Try body [.ExceptHandler (some (.Name x np)) (some n) (b₀::suite) hpos] [] [] pos) (aen X.K C j tb th):=by
 intro pins s σ H D I h
 refine wpAny_Try_except (wpAny_mono (hb pins s σ H D _ I h) (fun f s1 q=>?_) fun e s1 q=>?_)
 · cases f with
   | next=>exact wpAny_execs_nil q
   | ret v=>exact q
   | brk=>exact q
   | cont=>exact q
 · obtain⟨σ',H1,s2,I1,ea,cls,dct,H',B,rfl,fl,os,bare,hok,xu,G,rfl,hx,q⟩:=q
   rw [hst] at fl
   have back:∀ (h':Heap) (tk:Nat),B.StaysIn h'→h'.FunFrames B X.stack→Xo X.stack H1 H' s2.heap B h'→Inv X pins σ' H' { s1 with heap:=h',toks:=tk }:=fun h' tk st fr xu' =>
     I1.call' (ch:=[]) os (xu'.un st fr) (hok.kept st) bare fun b z=>nomatch z
   have fr0:s1.heap.FunFrames B X.stack:=by rw [hst];exact fl.2.2.1
   refine NK (by rw [I.ok.frames,hst]) hfr fl fun h4 ac8 up4=>?_
   have x4:=xu.step fr0 up4
   refine zx ac8 fun h5 fl5 up5=>?_
   have fr4:h4.FunFrames B X.stack:=by rw [hst];exact ac8.2.2.1
   have x5:=x4.step fr4 up5
   have fr5:h5.FunFrames B X.stack:=by rw [hst];exact fl5.2.2.1
   have I5:Inv X pins σ' H' { s1 with heap:=h5 }:=back h5 s1.toks fl5.1 fr5 x5
   obtain⟨ob,hob,hobc,-⟩:=fl5.there
   have LT:Looks (model X.prog X.w) h5 (typeOf (.ref ea)) (.ref G):=hobc ▸ (Looks.ld hob).andThen .now
   refine wpAny_handleBy_cons (codeAny_handlers_test ?_) (by intro z;cases z)
   have ld:=fun Q E q=>xZ (X:=hcx X ea) (pos:=np) (Q:=Q) (E:=E) (YC I5) hg hm q hd
   refine ld _ _ ?_
   refine (exm_one (M:=model X.prog X.w) I5.ug LT hx).here ?_
   refine codeAny_handlers_suite_as ?_
   refine zx fl5 fun h6 fl6 up6=>?_
   have x6:=x5.step fr5 up6
   have fr6:h6.FunFrames B X.stack:=by rw [hst];exact fl6.2.2.1
   have I6:Inv X pins σ' H' { s1 with heap:=h6 }:=back h6 s1.toks fl6.1 fr6 x6
   obtain⟨oe,eoe,coe,avz,vs,doe⟩:=fl6.there
   have nee:∀ b o,s2.heap.get? b=some o→b≠ea:=fun b o e z=>by
     subst z
     by_cases hbf:b∈frs X.stack
     · obtain⟨_,o',ho',hd'⟩:=fr6.mem hbf
       rw [eoe] at ho';cases ho'
       exact hd' vs doe
     · obtain⟨o',q'⟩:=xu.Ho b o e hbf
       rw [fl6.2.1] at q';cases q'
   have fe:H' ea=none:=by
     cases z:H' ea with
     | none=>rfl
     | some u =>
       have lt:=hok ea u z
       exact absurd lt fun lt=>by
         have q':∃ o,B.get? ea=some o:=by
           cases u with
           | lst xs=>obtain⟨_,_,_,_,e⟩:=lt;exact⟨_,e⟩
           | tup xs=>obtain⟨_,_,_,o,e,_⟩:=lt;exact⟨_,e⟩
           | dK kvs=>obtain⟨_,_,_,_,o,_,_,e,_⟩:=lt;exact⟨_,e⟩
           | dT kvs=>obtain⟨_,_,_,_,o,_,_,e,_⟩:=lt;exact⟨_,e⟩
           | set S n=>obtain⟨o,_,_,_,e,_⟩:=lt;exact⟨_,e⟩
           | ins C dx fs=>obtain⟨_,_,_,e,_⟩:=lt;exact⟨_,e⟩
           | own y=>exact lt
           | xd fs=>obtain⟨_,⟨o,_,_,e,_⟩,_⟩:=lt;exact⟨_,e⟩
           | rng lo hi=>obtain⟨_,_,_,e⟩:=lt;exact⟨_,e⟩
           | jG o u=>exact⟨_,lt.1⟩
           | tbl ps=>exact⟨_,lt⟩
           | met f y=>exact⟨_,lt⟩
           | ext φ=>exact lt.2.1
         obtain⟨o,q'⟩:=q'
         rw [fl6.2.1] at q';cases q'
   have I7:Inv X pins σ' (upd H' ea (Qp ea G dct)) { s1 with heap:=h6 }:=by
     refine I6.YD fe (fun b ob' e z=>?_) (fun z=>?_) (fun y c e z=>?_) (fun p hp z=>?_) (by
       cases dct with
       | none=>exact⟨⟨oe,eoe,coe⟩,⟨oe,eoe⟩,fun h1 h2 ⟨o,e,c⟩ k=>⟨o,k o e,c⟩⟩
       | some dx=>exact⟨⟨oe,eoe,coe,avz,vs,doe⟩,⟨oe,eoe⟩,fun h1 h2 ⟨o,e,c⟩ k=>⟨o,k o e,c⟩⟩)
     · obtain⟨o',e'⟩:=I1.base.there b ob' e (by rw [hex];exact fun z=>nomatch z)
       exact nee b o' e' z
     · obtain⟨m,⟨o,_,_,e,_⟩,_⟩:=I1.loc
       exact nee _ o e z
     · obtain⟨v,o,e',_⟩:=I1.cell y c e
       exact nee c o e' z
     · exact nee p.1 p.2 (I1.pin p hp).1 z
   refine zb (X:=hcx X ea) (v:=.ref ea) (YC I7) hN hj (.inl hl) rfl (fun s8 I8=>?_) (.inr hl)
   refine wpAny_mono (hh ea pins s8 _ _ (YF D j) I8 (q ea fe)) (fun f s9 q9=>?_) fun _ _ z=>(show False from z).elim
   have q9:=aem I.ok q9
   cases f with
   | next=>obtain⟨σ9,H9,I9,q9⟩:=q9;exact vH I9 hN hj hl fun s' I'=>⟨_,H9,I',q9⟩
   | brk=>obtain⟨σ9,H9,I9,q9⟩:=q9;exact vH I9 hN hj hl fun s' I'=>⟨_,H9,I',q9⟩
   | cont=>obtain⟨σ9,H9,I9,q9⟩:=q9;exact vH I9 hN hj hl fun s' I'=>⟨_,H9,I',q9⟩
   | ret u=>obtain⟨v,σ9,H9,I9,r9,q9⟩:=q9;exact vH I9 hN hj hl fun s' I'=>⟨v,_,H9,I',r9,q9⟩
end
end L2
namespace L2
open PySem PySem.Spec PyProof.Rows PySem.Calls
section
variable {X:Cx}
theorem YH:MtM X "str.zfill" (fun x vs H Q=>∃ z i,x=.str z∧vs=[.int i]∧PadOk i=true∧Q (.str (Txt.zfill z i)) H):=by
 intro pins s σ H x vs v us Q I rx rv h
 obtain⟨z,i,rfl,rfl,hz,q⟩:=h
 obtain⟨t,rfl⟩:=rx
 obtain⟨u,rfl,t',rfl⟩:=rv.one
 exact SC.zfill hz (fun t' k=>⟨.str _,H,I.tok _,⟨_,rfl⟩,q⟩)
def qd (l:List Nat):Nat→List Nat
 | 0=>[]
 | k+1=>qd l k++l
theorem uz (l:List Nat):∀ k,(qd l k).length=k*l.length
 | 0=>by simp [qd]
 | k+1=>by rw [qd,List.length_append,uz l k,Nat.succ_mul]
theorem YJ (x:Str) (k:Nat):(⟨(List.replicate k x.cps).foldl (· ++ ·) #[]⟩:Str)=S (qd (cd x) k):=by
 have g:∀ k,(List.replicate k x.cps).foldl (· ++ ·) #[]=(qd (cd x) k).toArray:=fun k=>by
   induction k with
   | zero=>rfl
   | succ k ih=>rw [List.replicate_succ',List.foldl_append,ih];show _++x.cps=_;rw [qd];apply Array.ext';simp [cd]
 rw [g];rfl
theorem Hq:jZ X (binaryOp .Mult) (fun x y H Q=>∃ z n,x=.str z∧y=.int n∧0≤n∧n≤1000000∧z.length*n.toNat≤1000000∧z.length≤1000000∧Q (.str (S (qd (cd z) n.toNat))) H):=by
 intro pins s σ H x y v u Q I rx ry h
 obtain⟨z,n,rfl,rfl,h0,h1,h2,h3,q⟩:=h
 obtain⟨t,rfl⟩:=rx
 obtain⟨t',rfl⟩:=ry
 have tl:Builtin.Str.tooLong (z.length*n.toNat)=false:=by
   unfold Builtin.Str.tooLong
   exact decide_eq_false (by rw [sizeLine_eq];omega)
 refine P.mul_str ?_ ?_ (fun _ _=>tl) ?_
 · rw [decide_eq_false (by omega),decide_eq_false (by omega)];rfl
 · intro hn _ hgt
   have:(2 ^ 63 - 1:Int) / n ≥ 1000000:=by
     have:(1000000:Int)*n≤2 ^ 63 - 1:=by omega
     exact Int.le_ediv_of_mul_le (by omega) this
   omega
 · have fin:∀ y:Str,y=S (qd (cd z) n.toNat)→∀ t tk,EP X pins σ Q (.str y t) { s with toks:=tk }:=fun y e t tk=>by
     subst e;exact⟨.str _,H,I.tok _,⟨_,rfl⟩,q⟩
   by_cases hn:n<1
   · rw [if_pos hn]
     have e0:n=0:=by omega
     subst e0
     exact⟨by rw [sizeLine_eq];exact Nat.zero_le _,fin _ rfl _ _⟩
   · rw [if_neg hn]
     by_cases h1:(n == 1 || z.length == 0)=true
     · rw [if_pos h1]
       refine fin z ?_ t s.toks
       rcases Bool.or_eq_true_iff.mp h1 with e | e
       · have e':n=1:=by simpa using e
         subst e'
         show z=S (qd (cd z) 1)
         rw [show qd (cd z) 1=cd z from by simp [qd],zr]
       · have e':(cd z)=[]:=List.eq_nil_of_length_eq_zero (by rw [← xS];simpa using e)
         have:∀ k,qd [] k=[]:=fun k=>by induction k with | zero=>rfl | succ k ih=>simp [qd,ih]
         rw [e',this,← e',zr]
     · rw [if_neg h1]
       refine⟨?_,fin _ (YJ z n.toNat) _ _⟩
       rw [YJ,uy,uz,← xS,sizeLine_eq,Nat.mul_comm]
       omega
end
end L2
namespace L2
open PySem PySem.Spec PyProof.Rows PySem.Calls
structure Hs (K:PySem.W.Frag) (x qual:Str) (st:Stmt) (ds:List Value) (f:Addr) (fd:FuncData):Prop where
 ex:∃ (T:Addr) (oc:Value) (od:Option Addr) (kV doc pm:Value) (an:Option Addr) (cdv ct:Value) (osl:Array (Option Value)) (to:Obj) (n:Nat),
   fd=PySem.W.fnOf x qual (ak st) (aj st) (aa st) (.ref T) kV doc pm an cdv ct∧K.lookup f=some ⟨oc,od,.func fd,osl⟩∧PySem.W.codeIn K cdv qual=true∧K.lookup T=some to∧to.cls=.type "tuple"∧to.data=.seq ds.toArray n
 kp:PySem.W.keepIn K (.ref f)=true
section
variable {P:Program}{w:World}{K:PySem.W.Frag}{mg:Str→Option Value}{base:Heap}{x qual:Str}{st:Stmt}{f:Addr}{fd:FuncData}{N ps:List Str}{k:Nat}{sp:Sp}{ds:List Value}
theorem Hs.okX (F:Hs K x qual st ds f fd) (S:au N ps (aa st)) (len:∀ vs H Q E,sp vs H Q E→vs.length=ps.length)
   (hbody:∀ (cdv:Value) (A:Around) (outer:List Env) (s:Shared) (H:Hp) (vs:List V) (Q:VK) (E:XK),gK k (A.deeper (envOfC qual (aa st) s.heap.objs.size f cdv))→sp vs H Q E →
     ∃ t,qG (eF (jf P w) P w K mg base N qual (aa st) f cdv A outer s H E) (aj st) t∧t { nx:=fun _ H'=>Q .non H',rt:=Q } (start N vs) H):aN P w K mg base (jf P w) (k+1) f fd ps sp:=by
 obtain⟨T,oc,od,kV,doc,pm,an,cdv,ct,osl,to,n,rfl,lk,hcd,_⟩:=F.ex
 exact UJ lk hcd S len fun A outer s H vs Q E hr hsp=>hbody cdv A outer s H vs Q E hr hsp
theorem Hs.ok (F:Hs K x qual st ds f fd) (S:au N ps (aa st)) (len:∀ vs H Q E,sp vs H Q E→vs.length=ps.length)
   (hbody:∀ (cdv:Value) (A:Around) (outer:List Env) (s:Shared) (H:Hp) (vs:List V) (Q:VK) (E:XK),gK k (A.deeper (envOfC qual (aa st) s.heap.objs.size f cdv))→sp vs H Q E →
     ∃ t,qG (eF dR P w K mg base N qual (aa st) f cdv A outer s H E).RT (aj st) t∧t { nx:=fun _ H'=>Q .non H',rt:=Q } (start N vs) H):aN P w K mg base dR (k+1) f fd ps sp:=by
 obtain⟨T,oc,od,kV,doc,pm,an,cdv,ct,osl,to,n,rfl,lk,hcd,_⟩:=F.ex
 refine UJ lk hcd S len fun A outer s H vs Q E hr hsp=>?_
 obtain⟨t,h,q⟩:=hbody cdv A outer s H vs Q E hr hsp
 exact⟨t,h.RT,q⟩
theorem Hs.binds {es:List Value} (F:Hs K x qual st ds f fd)
   (h:∀ (T:Addr) (kV doc pm:Value) (an:Option Addr) (cdv ct:Value) (us:List Value) (M:Model) (A:Around) (E:Value→Shared→Prop) (Q:List (Str × Value)→Shared→Prop) (s:Shared) (to:Obj) (n:Nat),s.heap.get? T=some to→to.cls=.type "tuple"→to.data=.seq ds.toArray n →
     (us++es).length=ps.length→Q (ps.zip (us++es)) s→wpAny M A (bindArgs (PySem.W.fnOf x qual (ak st) (aj st) (aa st) (.ref T) kV doc pm an cdv ct) ⟨us,[]⟩) Q E s):Binds K fd ps es:=by
 obtain⟨T,oc,od,kV,doc,pm,an,cdv,ct,osl,to,n,rfl,lk,hcd,lt,tc,td⟩:=F.ex
 intro s us X hl M A E Q q
 exact h T kV doc pm an cdv ct us M A E Q s to n (X _ _ lt) tc td hl q
end
section
variable {K:PySem.W.Frag}{C D:Addr}{cd:ClassData}{r b:Bool}{T:String}
theorem lR:PySem.W.kitOne K (.ref D) (.ref D)=some true:=by unfold PySem.W.kitOne;rw [if_pos (beq_self_eq_true _)]
theorem Ht (h1:PySem.W.clsIn K C=some cd) (h2:PySem.W.typeIn K (.ref C)=some (.type "type")) (h3:PySem.W.mroIn K D (.ref C)=some r):PySem.W.kitCls K (.ref D) (.ref C)=some r:=by
 show (if ((PySem.W.clsIn K C).isSome && PySem.W.typeIn K (.ref C) == some (.type "type"))=true then PySem.W.mroIn K D (.ref C) else none)=some r
 rw [h1,h2,h3];rfl
theorem yC (h1:PySem.W.clsIn K C=some cd) (h2:PySem.W.typeIn K (.ref C)=some (.type "type")) (h3:PySem.W.mroIn K D (.ref C)=some r) (hne:(Value.ref D == Value.ref C)=false):PySem.W.kitOne K (.ref D) (.ref C)=some r:=by
 unfold PySem.W.kitOne
 rw [if_neg (by rw [hne];decide)]
 exact Ht h1 h2 h3
theorem U6 (hm:PySem.W.kitMeta T=true) (h3:PySem.W.mroIn K D (.type T)=some r):PySem.W.kitOne K (.ref D) (.type T)=some r:=by
 unfold PySem.W.kitOne
 rw [if_neg (by intro z;cases beq_iff_eq.mp z)]
 show (if PySem.W.kitMeta T=true then PySem.W.mroIn K D (.type T) else none)=some r
 rw [if_pos hm];exact h3
theorem U7 {S:String} (h1:PySem.W.clsIn K C=some cd) (h2:PySem.W.typeIn K (.ref C)=some (.type "type")) (h3:PySem.W.subIn K (.type S) (.ref C)=some r):PySem.W.kitOne K (.type S) (.ref C)=some r:=by
 unfold PySem.W.kitOne
 rw [if_neg (by intro z;cases beq_iff_eq.mp z)]
 show (if ((PySem.W.clsIn K C).isSome && PySem.W.typeIn K (.ref C) == some (.type "type"))=true then PySem.W.subIn K (.type S) (.ref C) else none)=some r
 rw [h1,h2,h3];rfl
theorem U8 (h0:PySem.W.subIn K (.ref C) (.type "BaseException")=some true) (h1:PySem.W.clsIn K C=some cd) (h2:PySem.W.typeIn K (.ref C)=some (.type "type")) (h3:PySem.W.mroIn K D (.ref C)=some r):PySem.W.exmOne K (.ref D) (.ref C)=some r:=by
 unfold PySem.W.exmOne
 rw [h0,if_pos (by rfl)]
 exact Ht h1 h2 h3
theorem Mu (ga:PySem.W.findIn K (.ref D) "__getattribute__" = some (some (.builtin "BaseException.__getattribute__"))) (gk:PySem.W.findIn K (.ref D) "__getattr__" = some none) (cl:PySem.W.clsIn K D=some cd) (ha:PySem.W.findIn K (.ref D) "__class__" = some (some (.builtin "object.__class__")))
   (hn:PySem.W.specialIn K (.builtin "object.__class__") "__get__" = some (some (.builtin "getset_descriptor.__get__"))) (tk:PySem.W.takesIn K (.builtin "object.__class__")=some true) (mo:PySem.W.mroIn K D (.type "object")=some true) (mb:PySem.W.mroIn K D (.type "BaseException")=some true):rM K D :=
 ⟨ga,gk,by rw [cl];rfl,ha,hn,tk,mo,mb⟩
theorem vI {α:Type}{us ds:List α}{n m:Nat} (h:(us++ds).length=n) (hm:ds.length+m=n):us.length=m:=by rw [List.length_append] at h;omega
theorem lF {x qual:Str}{st:Stmt}{f T:Addr}{oc:Value}{od an dd:Option Addr}{osl dsl:Array (Option Value)}{kV doc pm cdv ct:Value}{ds:List Value}{n:Nat} (l:K.lookup f=some ⟨oc,od,.func (PySem.W.fnOf x qual (ak st) (aj st) (aa st) (.ref T) kV doc pm an cdv ct),osl⟩)
   (c:PySem.W.codeIn K cdv qual=true) (k:PySem.W.keepIn K (.ref f)=true) (lt:K.lookup T=some ⟨.type "tuple",dd,.seq ds.toArray n,dsl⟩):Hs K x qual st ds f (PySem.W.fnOf x qual (ak st) (aj st) (aa st) (.ref T) kV doc pm an cdv ct) :=
 ⟨⟨T,oc,od,kV,doc,pm,an,cdv,ct,osl,_,n,rfl,l,c,lt,rfl,rfl⟩,k⟩
end
end L2
namespace L2
theorem Bt.ValueError:PySem.bootBuiltins "ValueError" = some (.type "ValueError"):=PyProof.Rows.Boot.«ValueError»
open PySem PySem.Spec PyProof.Rows
def FIG:Str:="0123456789"
def inF (c:Nat):Bool:=!(Builtin.Str.occurrences FIG (S [c]) 0 FIG.length 1).isEmpty
theorem NP (c:Nat):inF c=true↔48≤c∧c≤57:=by
 have h:inF c=decide (c∈FIG.cps.toList):=StrLaws.found_one FIG c
 have e:FIG.cps.toList=[48,49,50,51,52,53,54,55,56,57]:=by symm
 rw [h,e,decide_eq_true_iff]
 simp only [List.mem_cons,List.not_mem_nil,or_false]
 omega
def val (l:List Nat):Int:=l.foldl (fun a c=>a*10+((c - 48:Nat):Int)) 0
structure Hu (n:Nat) (z:Str):Prop where
 len:z.length≤n
 cod:∀ c∈cd z,c<1000
theorem Hu.mono {n m:Nat}{z:Str} (h:Hu n z) (l:n≤m):Hu m z:=⟨Nat.le_trans h.len l,h.cod⟩
theorem Hu.cut {n:Nat}{z:Str} (h:Hu n z) (lo hi:Option Int):Hu n (S (Eo (cd z) lo hi)):=by
 refine⟨?_,fun c hc=>?_⟩
 · rw [uy];unfold Eo;rw [List.length_take,List.length_drop,← xS];have:=h.len;omega
 · rw [En] at hc;exact h.cod c (List.mem_of_mem_drop (List.mem_of_mem_take hc))
theorem Hu.size {n:Nat}{z:Str} (h:Hu n z) (hn:n≤100000:=by decide):z.length≤sizeLine:=by rw [sizeLine_eq];have:=h.len;omega
theorem Hu.int {i:Int}{k:Nat} (hk:0<k) (h:i.natAbs<10 ^ k):Hu (k+1) (toString i):=by
 refine⟨?_,fun c hc=>?_⟩
 · rw [show ((toString i:String):Str).length=(toString i).length from PySem.ofString_length _]
   exact int_text_length_le10 hk h
 · rcases Nat.lt_or_ge c 1000 with z | z
   · exact z
   · exact absurd hc (int_text_free' c ⟨by omega,by omega⟩ i)
end L2
namespace L2
open PySem PySem.Spec PyProof.Rows PySem.Calls
structure EqJ (X:Cx) (H:Hp) (n:Nat) (x y:V) (b:Bool):Prop where
 rc:∀ (pins:List (Addr × Obj)) (s:Shared) (σ:St) (u v:Value) (A:Around),Inv X pins σ H s→RelV x u→RelV y v→A.units+n<cLine→SeqAt.RcAt A s u v b
 ne:∀ (pins:List (Addr × Obj)) (s:Shared) (σ:St) (u v:Value) (A:Around),Inv X pins σ H s→RelV x u→RelV y v→A.units+n<cLine→SeqAt.RcNeAt A s u v (!b)
def aiC (X:Cx) (H:Hp) (n:Nat) (x y:V) (b:Bool):Prop :=
 ∀ (pins:List (Addr × Obj)) (s:Shared) (σ:St) (u v:Value) (A:Around),Inv X pins σ H s→RelV x u→RelV y v→A.units+n<cLine→SeqAt.EqAt A s u v b
section
variable {X:Cx}{H:Hp}{n:Nat}{x y:V}{b:Bool}{p q:Addr}{xs ys:List V}
theorem YK (fx:iV x=true) (fy:iV y=true):aiC X H n x y (RV x y):=fun _ _ _ _ _ _ _ rx ry _=>Yb rx ry fx fy
theorem NQ {xs:List V}{us:List Value} (r:Vals xs us) {j:Nat} (h:j<us.toArray.size):∃ x,xs[j]? = some x∧RelV x us.toArray[j]:=by
 have hj:j<us.length:=by simpa using h
 have hx:j<xs.length:=by rw [r.length];exact hj
 obtain⟨u,hu,ru⟩:=r.get (List.getElem?_eq_getElem hx)
 refine⟨xs[j],List.getElem?_eq_getElem hx,?_⟩
 rw [List.getElem?_eq_getElem hj] at hu
 cases hu
 simpa using ru
theorem YL {e:Nat→Bool} (h:jJ X.K H p xs) (k:jJ X.K H q ys) (he:∀ (j:Nat) x y,xs[j]? = some x→ys[j]? = some y→aiC X H n x y (e j)) :
   EqJ X H (n+1) (.ref p) (.ref q) ((List.range (min xs.length ys.length)).all e && xs.length == ys.length):=by
 have g:∀ (pins:List (Addr × Obj)) (s:Shared) (σ:St) (A:Around),Inv X pins σ H s→A.units+(n+1)<cLine→∃ its its':List Value,s.heap.IsTuple p its.toArray∧s.heap.IsTuple q its'.toArray∧its.toArray.size=xs.length∧its'.toArray.size=ys.length ∧
     ∀ j (h1:j<its.toArray.size) (h2:j<its'.toArray.size),SeqAt.EqAt A.in1 s its.toArray[j] its'.toArray[j] (e j):=fun pins s σ A I hu=>by
   obtain⟨its,r,pl,_⟩:=I.tuple h
   obtain⟨its',r',pl',_⟩:=I.tuple k
   have l1:=r.length
   have l2:=r'.length
   refine⟨its,its',pl,pl',by simp only [List.size_toArray];omega,by simp only [List.size_toArray];omega,fun j h1 h2=>?_⟩
   obtain⟨x,hx,rx⟩:=NQ r h1
   obtain⟨y,hy,ry⟩:=NQ r' h2
   exact he j x y hx hy pins s σ _ _ A.in1 I rx ry (by show A.units+1+n<_;omega)
 refine⟨fun pins s σ u v A I rx ry hu=>?_,fun pins s σ u v A I rx ry hu=>?_⟩ <;> (cases rx;cases ry;have hu':A.units<cLine:=by omega)
 · obtain⟨its,its',a,b,c,d,z⟩:=g pins s σ A I hu
   rw [← c,← d];exact SeqAt.RcAt.tuples a b hu' z
 · obtain⟨its,its',a,b,c,d,z⟩:=g pins s σ A I hu
   rw [← c,← d]
   exact SeqAt.RcNeAt.tuples a b hu' z
theorem YM {x:V} (h:iV x=true):RV x x=true:=by
 cases x <;> first | rfl | exact beq_self_eq_true _ | cases h
def YQ:List V→List V→Bool
 | [],[]=>true
 | x::xs,y::ys=>RV x y && YQ xs ys
 | _,_=>false
theorem Mv:∀ {xs ys:List V},xs.length=ys.length→(List.range xs.length).all (fun j=>RV (xs.getD j .non) (ys.getD j .non))=YQ xs ys
 | [],[],_=>rfl
 | x::xs,y::ys,h=>by
   have h':xs.length=ys.length:=Nat.succ.inj h
   rw [List.length_cons,List.range_succ_eq_map,List.all_cons,List.all_map,YQ,← Mv h']
   rfl
 | [],_::_,h=>by cases h
 | _::_,[],h=>by cases h
theorem U9:∀ {xs ys:List V},YQ xs ys=true→xs.length=ys.length
 | [],[],_=>rfl
 | x::xs,y::ys,h=>by rw [YQ,Bool.and_eq_true] at h;rw [List.length_cons,List.length_cons,U9 h.2]
 | [],_::_,h=>by cases h
 | _::_,[],h=>by cases h
theorem Hv:∀ {xs:List V},xs.all iV=true→YQ xs xs=true
 | [],_=>rfl
 | x::xs,h=>by rw [List.all_cons,Bool.and_eq_true] at h;rw [YQ,YM h.1,Hv h.2];rfl
theorem zy {xs:List V} (h:xs.all iV=true) {j:Nat}{x:V} (e:xs[j]? = some x):iV x=true∧xs.getD j .non=x :=
 ⟨List.all_eq_true.mp h x (List.mem_of_getElem? e),by rw [List.getD,e];rfl⟩
theorem Mw (h:jJ X.K H p xs) (k:jJ X.K H q ys) (fx:xs.all iV=true) (fy:ys.all iV=true):EqJ X H (n+1) (.ref p) (.ref q) (YQ xs ys):=by
 have e:((List.range (min xs.length ys.length)).all (fun j=>RV (xs.getD j .non) (ys.getD j .non)) && xs.length == ys.length)=YQ xs ys:=by
   by_cases hl:xs.length=ys.length
   · rw [← hl,Nat.min_self,beq_self_eq_true,Bool.and_true];exact Mv hl
   · have:YQ xs ys=false:=by
       cases e:YQ xs ys with
       | false=>rfl
       | true=>exact absurd (U9 e) hl
     rw [this,beq_eq_false_iff_ne.mpr hl,Bool.and_false]
 rw [← e]
 refine YL h k fun j x y hx hy=>?_
 obtain⟨a,a'⟩:=zy fx hx
 obtain⟨b,b'⟩:=zy fy hy
 rw [a',b']
 exact YK a b
theorem YS (hu:X.A.units+20<cLine):jZ X (compareOp .Eq) (fun x y H Q=>∃ b,EqJ X H 20 x y b∧Q (.bl b) H):=by
 intro pins s σ H x y v u Q I rx ry h
 obtain⟨b,e,q⟩:=h
 exact e.rc pins s σ v u X.A I rx ry hu X.prog X.w X.xe _ ⟨.bl b,H,I,rfl,q⟩
theorem aiD {A:Around}{k:Nat} (hr:gK k A):A.units+20<cLine:=by have:=hr.units;omega
end
end L2
namespace L2
open PySem PySem.Spec PyProof.Rows PySem.Calls
section
variable {P:Program}{w:World}{K:PySem.W.Frag}{mg:Str→Option Value}{base:Heap}
structure jg (P:Program) (w:World) (K:PySem.W.Frag) (mg:Str→Option Value) (base:Heap) (CX:Nr) (k:Nat) (C:Addr) (m:Str) where
 f:Addr
 fd:FuncData
 ps:List Str
 sp:Sp
 ds:List Value
 vR:List V
 c:zg K C
 hm:Meth K C m f
 F:aN P w K mg base CX k f fd ps sp
 hb:Binds K fd ps ds
 hd:Vals vR ds
end
section
variable {X:Cx}{CX:Nr}{k:Nat}{E:XK}{m:Str}{pos apos:Pos}{e o:Expr}{es:List Expr}{ta:TE}{t:TA}
def YT (X:Cx) (CX:Nr) (k:Nat) (m:Str) (E:XK) (ta:TE) (t:TA):TE:=fun σ H Q=>ta σ H fun x H1=>∃ (a C dx:Addr) (fs:List (Str × V)) (M:jg X.prog X.w X.K X.mg X.base CX k C m),x=.ref a∧H1 a=some (.ins C dx fs)∧fs.lookup m=none ∧
 t σ H1 fun vs H2=>M.sp (x::(vs++M.vR)) H2 Q E
theorem yY {pl:Sem Bool} (hr:gK k X.A) (hx:Passes CX X E) (he:PE X o ta) (ha:PA X (e::es) t)
   (hst:starEach (e::es) X.env=(false,eval e X.env)::starEach es X.env:=by rfl) (hpl:(backTo pos (starEach es X.env)).any (·.1)=false:=by rfl)
   (ht:eval (.Call (.Attribute o m apos) (e::es) [] pos) X.env=(do
     let ov ← eval o X.env
     standAt apos.atName
     let (f,first) ← holding [ov] (getMethod ov m pl)
     callWith pos f first (backTo pos (starEach (e::es) X.env)) (backToKw pos (keywordEach [] X.env))):=by rfl) :
   PE X (.Call (.Attribute o m apos) (e::es) [] pos) (YT X CX k m E ta t):=by
 intro pins s σ H Q I h
 refine PySem.W.methodCall_KW (pl:=pl) (fM (he pins s σ H _ I h) fun u s1 ⟨x,H1,I1,rx,a,C,dx,fs,M,ex,ea,l,q⟩=>?_) ht
 subst ex
 obtain rfl:u=Value.ref a:=rx
 refine Hh I1 ea M.c M.hm l ?_
 refine PySem.W.callWith_K (first:=[.ref a]) (h₀:=X.base) I.ok.mod.kin M.hm.kp (fM (ha pos pins s1 σ H1 _ I1 q) fun us s2 ⟨vs,H2,I2,r,q2⟩=>⟨I2.ug,?_⟩) hst hpl
 exact Nt (us:=.ref a::us) (vs:=.ref a::vs) M.F hr M.hb M.hd hx I2 (.cons rfl r) q2
theorem xU {pl:Sem Bool} (hr:gK k X.A) (hx:Passes CX X E) (he:PE X o ta)
   (ht:eval (.Call (.Attribute o m apos) [] [] pos) X.env=(do
     let ov ← eval o X.env
     standAt apos.atName
     let (f,first) ← holding [ov] (getMethod ov m pl)
     callWith pos f first (backTo pos (starEach [] X.env)) (backToKw pos (keywordEach [] X.env))):=by rfl) :
   PE X (.Call (.Attribute o m apos) [] [] pos) (YT X CX k m E ta J0):=by
 intro pins s σ H Q I h
 refine PySem.W.methodCall_KW (pl:=pl) (fM (he pins s σ H _ I h) fun u s1 ⟨x,H1,I1,rx,a,C,dx,fs,M,ex,ea,l,q⟩=>?_) ht
 subst ex
 obtain rfl:u=Value.ref a:=rx
 refine Hh I1 ea M.c M.hm l ?_
 exact PySem.W.callWith_K0 (first:=[.ref a]) I1.ug M.hm.kp (Nt (us:=[.ref a]) (vs:=[.ref a]) M.F hr M.hb M.hd hx I1 (.cons rfl .nil) q)
structure YW (K:PySem.W.Frag) (C:Addr) (m:Str) (f:Addr):Prop where
 rd:PySem.W.readsIn K C (.type "type")=true
 at_:PySem.W.findCls K (.ref C) (.type "type") m=some (.val (.ref f))
 sp:PySem.W.specialIn K (.ref C) "__getattribute__" = some (some (.builtin "type.__getattribute__"))
 kp:PySem.W.keepIn K (.ref f)=true
theorem uA {pl:Sem Bool}{C f:Addr}{fd:FuncData}{ps:List Str}{sp:Sp}{x:Str}{np:Pos} (c:YW X.K C m f) (F:aN X.prog X.w X.K X.mg X.base CX k f fd ps sp) (hr:gK k X.A) (hg:Gl X x) (hmg:X.mg x=some (.ref C)) (hb:Binds X.K fd ps []) (hx:Passes CX X E)
   (ha:PA X (e::es) t) (hd:(x == ("__debug__":Str))=false:=by decide)
   (hst:starEach (e::es) X.env=(false,eval e X.env)::starEach es X.env:=by rfl) (hpl:(backTo pos (starEach es X.env)).any (·.1)=false:=by rfl)
   (ht:eval (.Call (.Attribute (.Name x np) m apos) (e::es) [] pos) X.env=(do
     let ov ← eval (.Name x np) X.env
     standAt apos.atName
     let (f,first) ← holding [ov] (getMethod ov m pl)
     callWith pos f first (backTo pos (starEach (e::es) X.env)) (backToKw pos (keywordEach [] X.env))):=by rfl) :
   PE X (.Call (.Attribute (.Name x np) m apos) (e::es) [] pos) (ac3 sp [] E t):=by
 intro pins s σ H Q I h
 refine PySem.W.methodCall_KW (pl:=pl) (xZ I hg hmg ?_ hd) ht
 refine PySem.W.method_cls I.ug c.sp (PySem.W.cls_value (s:=s) I.ug c.rd c.at_ rfl ?_)
 refine PySem.W.callWith_K (first:=[]) (h₀:=X.base) I.ok.mod.kin c.kp (fM (ha pos pins _ σ H _ (I.tok _) h) fun us s2 ⟨vs,H2,I2,r,q2⟩=>⟨I2.ug,?_⟩) hst hpl
 exact Nt (us:=us) (vs:=vs) F hr hb .nil hx I2 r q2
end
end L2
namespace L2
open PySem PySem.Spec PyProof.Rows
def dig (n:Nat):List Nat:=(Nat.toDigits 10 n).map Char.toNat
theorem Va:∀ d:Nat,d<10→(Nat.digitChar d).toNat=48+d:=by decide
theorem SQ {n:Nat} (h:n<10):dig n=[48+n]:=by
 unfold dig;rw [Nat.toDigits_of_lt_base h];show [(Nat.digitChar n).toNat]=_;rw [Va n h]
theorem YX {n:Nat} (h:10≤n):dig n=dig (n / 10)++[48+n % 10]:=by
 unfold dig;rw [Nat.toDigits_of_base_le (by decide) h,List.map_append];show _++[(Nat.digitChar (n % 10)).toNat]=_;rw [Va _ (Nat.mod_lt _ (by decide))]
theorem NT {k n:Nat} (hk:1≤k) (hn:n<10 ^ k):(dig n).length≤k:=by unfold dig;rw [List.length_map];exact toDigits_len_pow (by decide) hk hn
theorem abT (n:Nat):(dig n).all inF=true:=by
 induction n using Nat.strongRecOn with
 | _ n ih =>
   by_cases h:n<10
   · rw [SQ h,List.all_cons,(NP _).mpr ⟨by omega,by omega⟩];rfl
   · rw [YX (by omega),List.all_append,ih (n / 10) (by omega),List.all_cons,(NP _).mpr ⟨by omega,by have:=Nat.mod_lt n (show 0<10 by decide);omega⟩];rfl
theorem YZ {n:Nat} (h:n≠0):∃ c r,dig n=c::r∧49≤c∧c≤57:=by
 induction n using Nat.strongRecOn with
 | _ n ih =>
   by_cases h10:n<10
   · exact⟨_,_,SQ h10,by omega,by omega⟩
   · obtain⟨c,r,e,h1,h2⟩:=ih (n / 10) (by omega) (by omega)
     exact⟨c,r++[48+n % 10],by rw [YX (by omega),e];rfl,h1,h2⟩
theorem NZ {n c:Nat} (h:c∈dig n):48≤c∧c≤57:=(NP c).mp (List.all_eq_true.mp (abT n) c h)
theorem Y0:dig 0=[48]:=SQ (by decide)
def vV (i:Int):List Nat:=if i<0 then 45::dig i.natAbs else dig i.natAbs
theorem aeo (i:Int):cd ((toString i:String):Str)=vV i:=by
 show (Str.ofString (toString i)).cps.toList=_
 rw [signs_ofString]
 unfold vV
 cases i with
 | ofNat m =>
   rw [if_neg (show ¬ Int.ofNat m<0 from by have:Int.ofNat m=(m:Int):=rfl;omega)]
   show (Nat.repr m).toList.map Char.toNat=_
   rw [Nat.toList_repr];rfl
 | negSucc m =>
   rw [if_pos (Int.negSucc_lt_zero m)]
   have:(toString (Int.negSucc m))="-" ++ Nat.repr (m+1):=rfl
   rw [this,String.toList_append,Nat.toList_repr];rfl
end L2
namespace L2
open PySem PySem.Spec PyProof.Rows PySem.Calls
section
variable {X:Cx}
end
theorem lk1 {a:Str}{v:V}{r:List (Str × V)}:((a,v)::r).lookup a=some v:=by rw [List.lookup_cons,beq_self_eq_true]
theorem Px {a b:Str}{v w:V} (h:(b == a)=false) {r:List (Str × V)}:((a,v)::(b,w)::r).lookup b=some w:=by rw [List.lookup_cons,h];exact lk1
structure Thing (K:PySem.W.Frag) (H:Hp) (x:V) where
 t:Value
 bi:Bool
 bb:Bool
 bs:Bool
 ty:TyE K H x t
 ki:PySem.W.kitOne K t (.type "int")=some bi
 kb:PySem.W.kitOne K t (.type "bool")=some bb
 ks:PySem.W.kitOne K t (.type "str")=some bs
 hi:(bi && !bb)=true→∃ n,x=.int n
 hs:bs=true→∃ z,x=.str z
 ni:∀ n,x=.int n→(bi && !bb)=true
 ns:∀ z,x=.str z→bs=true
 hbl:bb=true→∃ b,x=.bl b
 nbl:∀ b,x=.bl b→bb=true
theorem az.avB {K:PySem.W.Frag}{H H':Hp}{a:Addr}{xs:List V} (e:az H H') (h:jJ K H a xs):jJ K H' a xs:=by
 rcases h with h | h
 · exact .inl (h.imp (fun k=>e _ _ k) (fun⟨o,k⟩=>⟨o,e _ _ k⟩))
 · exact .inr h
theorem az.avC {K:PySem.W.Frag}{H H':Hp}{x:V}{t:Value} (e:az H H') (h:TyE K H x t):TyE K H' x t:=by
 cases h with
 | old h=>exact .old (e.ty h)
 | exc h c=>exact .exc (e _ _ h) c
 | m7 h c=>exact .m7 (e _ _ h) c
 | tpl h=>exact .tpl (e.avB h)
def Thing.same {K:PySem.W.Frag}{H H':Hp}{x:V} (h:Thing K H x) (e:az H H'):Thing K H' x:=⟨h.t,h.bi,h.bb,h.bs,e.avC h.ty,h.ki,h.kb,h.ks,h.hi,h.hs,h.ni,h.ns,h.hbl,h.nbl⟩
theorem az.upd {H H':Hp}{p:Addr}{o:HO} (e:az H H') (h:H p=none∨H p=some o):az H (L2.upd H' p o):=fun b u q=>by
 by_cases z:b=p
 · subst z
   rcases h with h | h
   · rw [h] at q;cases q
   · rw [h] at q;rw [zB];exact q
 · rw [zL z];exact e b u q
end L2
namespace L2
open PySem PySem.Spec PyProof.Rows
theorem str_is (n:Int):((toString n:String):Str)=S (vV n):=Sw (aeo n)
theorem Y4 {m:Int} (h:m.natAbs<10 ^ 61):m.natAbs.log2<1920:=by
 by_cases h0:m.natAbs=0
 · rw [h0];decide
 · exact (Nat.log2_lt h0).mpr (Nat.lt_trans h (by symm))
end L2
namespace L2
open PySem PySem.Spec PyProof.Rows PySem.Calls
theorem N5 {X:Cx}{e:Expr}{te te':TE} (h:PE X e te') (h2:te'=te):PE X e te:=h2 ▸ h
def aep (K:PySem.W.Frag) (a:Addr) (D:List (Str × Bool)):Prop :=
 (a == sysModules)=false∧∃ o es ep,K.lookup a=some o∧o.ExactDict∧o.data=.dict es ep∧KTD.Rows (fun (b:Bool) (v:Value)=>v=.bool b) es.toList D
theorem abU {K:PySem.W.Frag}{a:Addr}{oc:Value}{od:Option Addr}{es:Array DictEntry}{ep:Nat}{sl:Array (Option Value)}{D:List (Str × Bool)} (h:K.lookup a=some ⟨oc,od,.dict es ep,sl⟩) (hs:(a == sysModules)=false) (hc:oc=.type "dict") (hd:od=none) (hsl:sl=#[]) (hr:KTD.Rows (fun (b:Bool) (v:Value)=>v=.bool b) es.toList D):aep K a D:=by
 subst hc hd hsl
 exact⟨hs,_,es,ep,h,⟨rfl,rfl,rfl⟩,rfl,hr⟩
def Hw (D:List (Str × Bool)) (z:Str):V:=match D.lookup z with
 | some b=>.bl b
 | none=>.non
theorem wN (z:Str):∀ D:List (Str × Bool),KTD.datumAt z (D.map fun p=>(p.1,KTD.Dat.flat (.bool p.2)))=(D.lookup z).map fun b=>KTD.Dat.flat (.bool b)
 | []=>rfl
 | (x,b)::D=>by
   show (if decide (z=x)=true then some (KTD.Dat.flat (.bool b)) else KTD.datumAt z (D.map fun p=>(p.1,KTD.Dat.flat (.bool p.2))))=_
   rw [wN z D,List.lookup_cons]
   by_cases h:z=x
   · subst h;rw [if_pos (decide_eq_true rfl),beq_self_eq_true];rfl
   · rw [if_neg (by simpa using h),beq_eq_false_iff_ne.mpr h]
section
variable {X:Cx}
theorem abV {x:Str}{a:Addr}{D:List (Str × Bool)}{e:Expr}{te:TE}{np apos cpos:Pos} (hg:Gl X x) (hm:X.mg x=some (.ref a)) (hT:aep X.K a D) (he:PE X e te) (m:M1 X (.Name x np) "get" apos e cpos) (hdb:(x == ("__debug__":Str))=false:=by decide) :
   PE X (.Call (.Attribute (.Name x np) "get" apos) [e] [] cpos) (fun σ H Q=>te σ H fun v H1=>∃ z,v=.str z∧Q (Hw D z) H1):=by
 intro pins s σ H Q I h
 obtain⟨lo,o,es,ep,lk,hc,hd,hr⟩:=hT
 have T0:KTD.TextTab X.base a (D.map fun p=>(p.1,KTD.Dat.flat (.bool p.2))) :=
   ⟨lo,o,es,ep,I.ok.mod.kin _ _ lk,hc,hd,hr.mono (f:=fun b=>KTD.Dat.flat (.bool b)) fun d v e=>by subst e;exact PyProof.V.Flat.bool d⟩
 have T:∀ {pins:List (Addr × Obj)}{σ:St}{H:Hp}{s:Shared},Inv X pins σ H s→KTD.Here X.base s.heap a (D.map fun p=>(p.1,KTD.Dat.flat (.bool p.2))):=fun I=>⟨T0,I.bk⟩
 refine wpAny_Call_method m.base m.few m.line PySem.F.plainAttrs_dict PySem.F.slot_dict_get PySem.F.type_dict_get (xZ I hg hm ?_ hdb)
 refine⟨(T I).typeIs,(T I).noDict,?_⟩
 rw [m.trees]
 refine Calls.callWith_builtin rfl (Calls.evalArgs_plain (Calls.spliced_cons (fM (he pins s σ H _ I h) fun iv s2 ⟨y,H2,I2,ry,z,ez,q2⟩=>Calls.spliced_nil ?_)))
 subst ez
 obtain⟨t,rfl⟩:=ry
 refine call_meetsIn PySem.F.slot_dict_get (T I2).typeIs PySem.F.entry_dict_get (PySem.F.args_dict_get_2 _ _) (KTD.meets_get1 (h₀:=X.base)) ⟨T I2,fun d v ha hv=>?_,fun hn=>?_⟩
 · rw [wN] at ha
   cases hl:D.lookup z with
   | none=>rw [hl] at ha;cases ha
   | some b =>
     rw [hl] at ha
     cases ha
     have hv':v=.bool b:=PyProof.V.Flat.bool_inv hv
     subst hv'
     refine⟨.bl b,H2,I2.tok _,rfl,?_⟩
     unfold Hw at q2
     rw [hl] at q2
     exact q2
 · rw [wN] at hn
   cases hl:D.lookup z with
   | some b=>rw [hl] at hn;cases hn
   | none =>
     refine⟨.non,H2,I2.tok _,rfl,?_⟩
     unfold Hw at q2
     rw [hl] at q2
     exact q2
theorem Qs:∀ {xs:List V}{us:List Value},Vals xs us→xs.all iV=true→∀ {x:V} (j:Nat) (h:j<us.toArray.size),Qf x us.toArray[j]=RV (xs.getD j .non) x:=by
 intro xs us r f x j h
 obtain⟨y,hy,ry⟩:=NQ r h
 obtain⟨a,b⟩:=zy f hy
 rw [b]
 exact Sq ry a
def ac9 (x:V) (xs:List V) (j:Nat):Prop:=∃ y,xs[j]? = some y∧RV y x=true∧∀ (m:Nat) z,m<j→xs[m]? = some z→RV z x=false
theorem Wg:MtM X "list.index" (fun x vs H Q=>∃ p xs y j,x=.ref p∧vs=[y]∧cB X.K H p xs∧xs.all iV=true∧iV y=true∧ac9 y xs j∧Q (.int (j:Nat)) H):=by
 intro pins s σ H x vs v us Q I rx rv h
 obtain⟨p,xs,y,j,rfl,rfl,hq,fs,fy,⟨y',hj,hy,hno⟩,q⟩:=h
 cases rx
 obtain⟨u,rfl,ru⟩:=rv.one
 obtain⟨its,r,pl,hz⟩:=I.list hq
 obtain⟨⟨cls,dd,data,sl⟩,ho,hc,n,hd⟩:=pl.isList
 simp only at hc hd
 subst hc hd
 have hl:=r.length
 have hlt:j<xs.length:=(List.getElem?_eq_some_iff.mp hj).1
 have hn:=Hg
 refine call_meets PySem.F.slot_list_index ⟨_,ho,rfl⟩ PySem.F.entry_list_index (PySem.F.args_list_index_2 _ _)
   (SeqAt.list_indexAt p its.toArray n dd sl u (Qf y) j (by rw [List.size_toArray];omega) (by omega) ?_ ?_) ⟨ho,fun w hw=>qJ ru fy r fs w (by simpa using hw),⟨.int j,H,I.tok _,⟨_,rfl⟩,q⟩⟩
 · rw [Qs r fs,(zy fs hj).2];exact hy
 · intro m hm hmj
   rw [Qs r fs]
   have hm':m<xs.length:=by omega
   have e:=List.getElem?_eq_getElem hm'
   rw [(zy fs e).2]
   exact hno m _ hmj e
end
end L2
namespace L2
open PySem PySem.Spec PyProof.Rows PySem.Calls
section
variable {prog:Program}{w:World}{A:Around}{R:Result→Shared→Prop}{I:Addr}{fp wr:List Addr}{G:Array GenState→Array GenState→Prop}{n:Nat}{P:Nat→Value→Prop}{St:Nat→Shared→Prop}
end
section
variable {prog:Program}{w:World}{A:Around}{E:Value→Shared→Prop}{s:Shared}
end
section
variable {X:Cx}
end
end L2
namespace L2
open PySem PySem.Spec PyProof.Rows PySem.Calls
theorem My:∀ (ws:List Str) (tk:Nat),Vals (ws.map V.str) (strsFrom tk ws)
 | [],_=>.nil
 | x::r,tk=>.cons ⟨tk,rfl⟩ (My r (tk+1))
section
variable {X:Cx}
theorem Y5:MtM X "str.split" (fun x vs H Q=>∃ z y,x=.str z∧vs=[.str y]∧0<y.length∧z.length≤100000∧∀ l,H l=none→Q (.ref l) (upd H l (.lst ((Txt.split z y).map V.str)))):=by
 intro pins s σ H x vs v us Q I rx rv h
 obtain⟨z,y,rfl,rfl,hy,hz,q⟩:=h
 obtain⟨t,rfl⟩:=rx
 obtain⟨u,rfl,⟨t',rfl⟩⟩:=rv.one
 have hy':(y.length == 0)=false:=by rw [beq_eq_false_iff_ne];omega
 have hle:=split_le z y
 have hsz:(Txt.split z y).length≤sizeLine:=by rw [sizeLine_eq];omega
 have hzs:z.length≤sizeLine:=by rw [sizeLine_eq];omega
 have q:=q _ (I.hok.fresh (Nat.le_refl _))
 have fin:∀ (its:List Value) (tk:Nat),Vals ((Txt.split z y).map V.str) its→EP X pins σ Q (.ref s.heap.objs.size) { s with toks:=tk,heap:=s.heap.push { cls:=.type "list",data:=.seq its.toArray } }:=fun its tk r =>
   ⟨.ref s.heap.objs.size,_,I.laid (t':=tk) (a:=s.heap.objs.size) (fun b o e=>Heap.get?_push_of_some _ e) (Nat.le_refl _) (show bw X.prog X.w _ _ _ (.lst ((Txt.split z y).map V.str)) from ⟨by rw [List.length_map];exact hsz,its,_,r,Heap.get?_push_size _ rfl⟩),rfl,q⟩
 cases h1:(decide (z.length<y.length) || decide (Builtin.Str.strKind z<Builtin.Str.strKind y)) with
 | true =>
   have e:Txt.split z y=[z]:=if_pos h1
   exact call_meets PySem.F.slot_str_split (typeIs_str _ _ _) PySem.F.entry_str_split (PySem.F.args_str_split_2 _ _) (meets_str_split_cannot_occur z y t t' h1) (fin [.str z t] _ (by rw [e];exact .cons ⟨t,rfl⟩ .nil))
 | false =>
   cases hf:(Builtin.Str.occurrences z y 0 z.length (z.length+1)).isEmpty with
   | true =>
     have e:Txt.split z y=[z]:=(if_neg (ne_true_of_eq_false h1)).trans (if_pos hf)
     exact call_meets PySem.F.slot_str_split (typeIs_str _ _ _) PySem.F.entry_str_split (PySem.F.args_str_split_2 _ _) (meets_str_split_not_found z y t t' h1 hy' hf) (fin [.str z t] _ (by rw [e];exact .cons ⟨t,rfl⟩ .nil))
   | false =>
     have e:Txt.split z y=Builtin.Str.partsBetween z (Builtin.Str.occurrences z y 0 z.length (z.length+1)) y.length:=(if_neg (ne_true_of_eq_false h1)).trans (if_neg (ne_true_of_eq_false hf))
     refine call_meets PySem.F.slot_str_split (typeIs_str _ _ _) PySem.F.entry_str_split (PySem.F.args_str_split_2 _ _) (meets_str_split_sep z y t t' h1 hy' hf hzs (by rw [← e];exact hsz)) (fin _ _ ?_)
     rw [e];exact My _ _
end
theorem Wh:∀ {a b:List (List Nat)},a≠[]→b≠[]→(∀ p∈a,32∉p)→(∀ p∈b,32∉p)→qL [32] a=qL [32] b→a=b:=by
 have cut:∀ {x y u v:List Nat},32∉x→32∉y→x++32::u=y++32::v→x=y∧u=v:=by
   intro x
   induction x with
   | nil =>
     intro y u v hx hy e
     cases y with
     | nil=>exact⟨rfl,(List.cons.inj e).2⟩
     | cons b r=>exact absurd (by rw [show b=32 from (List.cons.inj e).1.symm];simp) hy
   | cons a x ih =>
     intro y u v hx hy e
     cases y with
     | nil=>exact absurd (by rw [show a=32 from (List.cons.inj e).1];simp) hx
     | cons b r =>
       have h:=List.cons.inj e
       obtain⟨h1,h2⟩:=ih (fun z=>hx (List.mem_cons_of_mem _ z)) (fun z=>hy (List.mem_cons_of_mem _ z)) h.2
       exact⟨by rw [h.1,h1],h2⟩
 intro a
 induction a with
 | nil=>intro b h;exact absurd rfl h
 | cons x r ih =>
   intro b _ hb ha hbb e
   cases b with
   | nil=>exact absurd rfl hb
   | cons y s =>
     have fx:=ha x (by simp)
     have fy:=hbb y (by simp)
     cases r with
     | nil =>
       cases s with
       | nil=>exact congrArg (·::[]) e
       | cons y2 s =>
         have e':x=y++[32]++qL [32] (y2::s):=e
         exact absurd (by rw [e'];simp) fx
     | cons x2 r =>
       cases s with
       | nil =>
         have e':x++[32]++qL [32] (x2::r)=y:=e
         exact absurd (by rw [← e'];simp) fy
       | cons y2 s =>
         have e':x++[32]++qL [32] (x2::r)=y++[32]++qL [32] (y2::s):=e
         rw [List.append_assoc,List.append_assoc] at e'
         obtain⟨h1,h2⟩:=cut fx fy e'
         have:=ih (b:=y2::s) (by simp) (by simp) (fun p hp=>ha p (List.mem_cons_of_mem _ hp)) (fun p hp=>hbb p (List.mem_cons_of_mem _ hp)) h2
         rw [h1,this]
def my (l:List Nat):List (List Nat):=(Txt.split (S l) (S [32])).map cd
theorem Dq {l p:List Nat} (h:p∈my l):32∉p:=by
 obtain⟨z,hz,rfl⟩:=List.mem_map.mp h
 exact StrLaws.split_free (S l) 32 z hz
theorem Mz (l:List Nat):my l≠[]:=by
 intro e
 have:=split_pos (S l) (S [32])
 have e2:=congrArg List.length e
 unfold my at e2
 rw [List.length_map] at e2
 rw [e2] at this;cases this
theorem Dr (l:List Nat):qL [32] (my l)=l:=by
 have e:=StrLaws.join_split (S l) (S [32])
 rw [← StrLaws.glued_eq_join] at e
 have e2:=Qn (S [32]) (Txt.split (S l) (S [32]))
 rw [show Dm (S [32]) (Txt.split (S l) (S [32]))=S l from e] at e2
 exact (aiv e2).symm
theorem MF {ws:List (List Nat)} (h:ws≠[]) (hf:∀ p∈ws,32∉p):my (qL [32] ws)=ws :=
 Wh (Mz _) h (fun _ hp=>Dq hp) hf (Dr _)
theorem Y6 (z:Str):Txt.split z (S [32])=(my (cd z)).map S:=by
 unfold my
 rw [List.map_map,zr]
 have:(S ∘ cd)=id:=funext fun x=>zr x
 rw [this,List.map_id]
theorem SX {l:List Nat} (h:32∉l):my l=[l]:=by
 have:=MF (ws:=[l]) (by simp) (by simpa using h)
 exact this
end L2
namespace HT
open PySem PySem.Spec PyProof.Rows PySem.Calls
section
variable {prog:Program}{w:World}{A:Around}{E:Value→Shared→Prop}{s:Shared}
end
end HT
namespace L2
open PySem PySem.Spec PyProof.Rows PySem.Calls
section
variable {X:Cx}
end
end L2
namespace L2
open PySem PySem.Spec PyProof.Rows PySem.Calls
def Ep (X:Cx) (ifs:List Expr) (t:TT):Prop :=
 ∀ (pins:List (Addr × Obj)) (s:Shared) (σ:St) (H:Hp) (Q:Bool→Hp→Prop),Inv X pins σ H s→t σ H Q →
   wpAny (model X.prog X.w) X.A (forIn ifs true fun c r=>if r=true then do let ok ← isTrue c X.env (eval c X.env);pure (ForInStep.yield ok) else pure (ForInStep.yield r)) (TP X pins σ Q) X.xe s
def ada:TT:=fun _ H Q=>Q true H
theorem lU {X:Cx}:Ep X [] ada:=fun pins s σ H Q I h=>wpAny_pure ⟨H,I,h⟩
theorem z6 {X:Cx}{c:Expr}{t:TT} (hc:PT X c t):Ep X [c] t:=fun pins s σ H Q I h=>by
 rw [List.forIn_cons]
 refine wpAny_bind (wpAny_bind (fM (hc pins s σ H Q I h) fun b s1 q=>wpAny_pure ?_))
 exact wpAny_pure q
theorem z8 {prog:Program}{w:World}{A:Around}{R:Result→Shared→Prop}{s:Shared}{elt target iter:Expr}{ifs:List Expr}{scope:Scope}{pos:Pos}{it acc:Value}{env:Env} (I:Nat→Shared→Prop)
   (turn:∀ n s,I n s→wpAny (model prog w) A (pyNext it) (fun r s₁=>match r with
     | none=>R (.ok .next) s₁
     | some v=>wpAny (model prog w) A (letOwnedTupleGo target it v) (fun _ s₂=>wpAny (model prog w) A (assign target env v) (fun _ s₃ =>
         wpAny (model prog w) A (forIn ifs true fun c r=>if r=true then do let ok ← isTrue c env (eval c env);pure (ForInStep.yield ok) else pure (ForInStep.yield r)) (fun ok s₄ =>
           if ok=true then wpAny (model prog w) A (eval elt env) (fun x s₅ =>
             wpAny (model prog w) A (call (.builtin "list.append") [acc,x]) (fun _ s₆=>∃ m,m<n∧I m s₆) (notedBy (model prog w) A env fun e s'=>R (.error e) s') s₅)
             (notedBy (model prog w) A env fun e s'=>R (.error e) s') s₄ else ∃ m,m<n∧I m s₄)
           (notedBy (model prog w) A env fun e s'=>R (.error e) s') s₃) (notedBy (model prog w) A env fun e s'=>R (.error e) s') s₂) (notedBy (model prog w) A env fun e s'=>R (.error e) s') s₁)
     (notedBy (model prog w) A env fun e s'=>R (.error e) s') s)
   (n:Nat) (h:I n s):codeAny (model prog w) A (.compLoop (.ListComp elt [⟨target,iter,ifs,0⟩] scope pos) 0 it acc env) R s:=by
 refine codeAny_loop rfl I (fun n s hI=>?_) n h
 show wpAny _ A ((compTurn (.ListComp elt [⟨target,iter,ifs,0⟩] scope pos) 0 it acc env).onRaise (fun x=>do noteFrame x env;theTreesLotGoes x)) _ _ s
 refine wpAny_noted ?_
 rw [compTurn_list]
 refine wpAny_bind (wpAny_standAt (wpAny_bind (wpAny_mono (turn n s hI) (fun r s₁ h₁=>?_) fun _ _ h'=>h')))
 cases r with
 | none=>exact wpAny_pure h₁
 | some v =>
   refine wpAny_bind (wpAny_mono h₁ (fun _ s₂ h₂=>wpAny_bind (wpAny_mono h₂ (fun _ s₃ h₃=>?_) fun _ _ h'=>h')) fun _ _ h'=>h')
   refine wpAny_bind (wpAny_mono h₃ (fun ok s₄ h₄=>?_) fun _ _ h'=>h')
   cases ok with
   | false=>exact wpAny_pure ⟨rfl,h₄⟩
   | true=>exact wpAny_bind (wpAny_bind (wpAny_mono h₄ (fun x s₅ h₅=>wpAny_bind (wpAny_mono h₅ (fun _ s₆ h₆=>wpAny_pure (wpAny_pure ⟨rfl,h₆⟩)) fun _ _ h'=>h')) fun _ _ h'=>h'))
def eE (X:Cx) (scope:Scope) (C:Addr) (x y:Str) (M:List Str) (s₂:Shared) (H₂:Hp) (fp:List Addr):Cx :=
 { X with N:=x::y::M,s₀:=s₂,H₀:=H₂,env:=compEnvC scope (lQ X.env scope.names []) C X.env,outer:=X.stack,ex:=fp,fn:=fun _=>false,pn:=[],xe:=fun _ _=>False }
structure pI (X:Cx) (scope:Scope) (x y:Str) (M:List Str):Prop where
 base:fP X scope x M
 aiF:scope.names.lookup y=some .local
 nd2:(x::y::M).Nodup
theorem xJ {X:Cx}{scope:Scope}{x y:Str}{M:List Str} (h:fP X scope x M) (h1:scope.names.lookup y=some .local) (h2:(x::y::M).Nodup):pI X scope x y M:=⟨h,h1,h2⟩
section
variable {X:Cx}{scope:Scope}{x y:Str}{M:List Str}{pins:List (Addr × Obj)}{σ:St}{H₂:Hp}{s₂:Shared}{elt iter tg:Expr}{ifs:List Expr}{pos:Pos}{te:TE}{wi:TI}{g:TG}{tc:TT}
theorem Wi (K:pI X scope x y M) (I:Inv X pins σ H₂ s₂) {fp:List Addr} (hf:∀ b∈fp,qH X pins H₂ b) (hfl:∀ b∈fp,b<s₂.heap.objs.size) {C:Addr} (hC:s₂.heap.objs.size≤C) {h₁:Heap}{t:Nat}{m:Str→Option Value} (hn:h₁.Ns C m)
   (hk:∀ b o,s₂.heap.get? b=some o→h₁.get? b=some o):Inv (eE X scope C x y M s₂ H₂ fp) [] (none::none::σ) H₂ { s₂ with heap:=h₁,toks:=t }:=by
 have I1:=Qk (t:=t) K.base I hf hfl hC hn hk
 have ok:(eE X scope C x y M s₂ H₂ fp).Ok:=by
   obtain⟨a1,a2,a3,a4,a5,a6,a7,a8,a9,a10,a11,a12,a13,a14,a15,a16,a17,a18⟩:=I1.ok
   exact⟨a1,a2,a3,a4,a5,a6,a7,a8,a9,a10,a11,a12,a13,a14,a15,a16,a17,a18⟩
 obtain⟨m',ns',lo⟩:=I1.loc
 refine⟨ok,I1.os,I1.bare,I1.base,⟨m',ns',fun i z v e1 e2 e3=>?_⟩,I1.cell,I1.free,I1.jH,I1.pin,I1.hok,?_⟩
 · match i,e1,e2 with
   | 0,_,e2=>cases e2
   | 1,_,e2=>cases e2
   | j+2,e1,e2=>exact lo (j+1) z v e1 e2 e3
 · have:=I1.len
   show (none::none::σ).length=(x::y::M).length
   have h2:(none::σ).length=(x::M).length:=this
   simp only [List.length_cons] at h2 ⊢
   omega
def Y7 (wi:TI) (g:TG) (tc:TT) (te:TE):TE:=fun σ H Q=>wi σ H fun J H1=>∃ (n:Nat) (W:Nat→List V→Hp→Prop),n≤sizeLine∧W 0 [] H1∧∀ i ys H,i≤n→ys.length≤i→W i ys H →
 (J.stop i H∧∀ p,H p=none→Q (.ref p) (upd H p (.lst ys)))∨(J.go i H∧i<n∧∀ x H',J.V2 i H x H'→∀ u v,g x (u::v::σ) H' fun ρ H2=>(∃ u' v',ρ=u'::v'::σ)∧tc ρ H2 fun c H3=>if c=true then te ρ H3 fun z H4=>W (i+1) (ys++[z]) H4 else W (i+1) ys H3)
theorem Ds (K:pI X scope x y M) (hc:X.calm=true) (I:Inv X pins σ H₂ s₂) (hg:∀ (C:Addr) (s₂:Shared) (H₂:Hp) (fp:List Addr),PG (eE X scope C x y M s₂ H₂ fp) tg g) (ht:∀ (C:Addr) (s₂:Shared) (H₂:Hp) (fp:List Addr),Ep (eE X scope C x y M s₂ H₂ fp) ifs tc) (he:∀ (C:Addr) (s₂:Shared) (H₂:Hp) (fp:List Addr),PE (eE X scope C x y M s₂ H₂ fp) elt te)
   {it:Addr}{fp:List Addr}{tn:Nat→Heap→Prop}{J:It} (T:Turn X.prog X.w X.K tg J fp it tn) (st:tn 0 s₂.heap) (hf:∀ b∈fp,qH X pins H₂ b) {n:Nat} (hsz:n≤sizeLine) {W:Nat→List V→Hp→Prop}{F:List V→Hp→Prop}
   (w0:W 0 [] H₂) (turn:∀ i ys H,i≤n→ys.length≤i→W i ys H→(J.stop i H∧F ys H)∨(J.go i H∧i<n∧∀ x H',J.V2 i H x H'→∀ u v,g x (u::v::σ) H' fun ρ H2=>(∃ u' v',ρ=u'::v'::σ)∧tc ρ H2 fun c H3=>if c=true then te ρ H3 fun z H4=>W (i+1) (ys++[z]) H4 else W (i+1) ys H3))
   {E:Value→Shared→Prop}{RR:Value→Addr→Result→Shared→Prop}
   (hRR:∀ (D C:Addr) (s':Shared) (H':Hp) (ys:List V) (m:Str→Option Value),Inv X pins σ (upd H' D (.lst ys)) s'→H' D=none→qH X pins (upd H' D (.lst ys)) C→s'.heap.Ns C m→F ys H'→RR (.ref D) C (.ok .next) s') :
   wpAny (model X.prog X.w) X.A (newList []) (fun acc s₃=>wpAny (model X.prog X.w) X.A (newFunctionEnv scope X.env.globals (lQ X.env scope.names []) [] X.env.qual none .none (some X.env)) (fun cenv s₄ =>
     codeAny (model X.prog X.w) X.A (.compStart (.ListComp elt [⟨tg,iter,ifs,0⟩] scope pos) 0 (.ref it) acc { cenv with scope:=relabel scope X.env }) (RR acc cenv.locals) s₄) E s₃) E s₂:=by
 refine wpAny_newObj_type (wpAny_newFunctionEnv K.base.cell (by intro y hy;simp at hy) (fun h₁ hns₁ hsb₁=>?_) K.base.kind)
 dsimp only at hns₁ hsb₁ ⊢
 generalize hH2:s₂.heap.push { cls:=.type "list",dict:=none,data:=.seq ([]:List Value).toArray } = H2 at hns₁ hsb₁ ⊢
 have hC:H2.objs.size=s₂.heap.objs.size+1:=by rw [← hH2,Heap.size_push]
 have hDC:s₂.heap.objs.size≠H2.objs.size:=by rw [hC];exact Nat.ne_of_lt (Nat.lt_succ_self _)
 have below:∀ b,b<s₂.heap.objs.size→b≠H2.objs.size∧b≠s₂.heap.objs.size:=fun b hb=>⟨by rw [hC];exact Nat.ne_of_lt (Nat.lt_succ_of_lt hb),Nat.ne_of_lt hb⟩
 have hfl:∀ b∈fp,b<s₂.heap.objs.size:=fun b hb=>by obtain⟨o,e,_⟩:=T.obj _ _ st b hb;exact Heap.lt_size e
 have old:∀ b o,s₂.heap.get? b=some o→h₁.get? b=some o:=fun b o e=>hsb₁.extBut b o (below b (Heap.lt_size e)).1 (Heap.get?_push_of_some _ (hH2 ▸ Heap.get?_push_of_some _ e))
 have hacc:h₁.get? s₂.heap.objs.size=some { cls:=.type "list",data:=.seq ([]:List Value).toArray 0 }:=hsb₁.extBut _ _ hDC (Heap.get?_push_of_some _ (hH2 ▸ Heap.get?_push_size _ rfl))
 generalize hCC:H2.objs.size=C at *
 generalize J7:s₂.heap.objs.size=D at *
 have hCle:s₂.heap.objs.size≤C:=by rw [J7,hC];exact Nat.le_succ _
 have st₁:tn 0 h₁:=T.keep _ _ _ st fun b _ o e=>old b o e
 have I₁:=Wi (t:=s₂.toks+([]:List (Str × Value)).length) K I hf (fun b hb=>by rw [J7];exact hfl b hb) hCle hns₁ old
 generalize hX':eE X scope C x y M s₂ H₂ fp=X' at I₁
 have eX:X'.prog=X.prog∧X'.w=X.w∧X'.K=X.K∧X'.calm=true∧X'.A=X.A∧X'.ex=fp∧X'.env=compEnvC scope (lQ X.env scope.names []) C X.env∧X'.s₀=s₂∧X'.pn=[]:=by
   subst hX';exact⟨rfl,rfl,rfl,hc,rfl,rfl,rfl,rfl,rfl⟩
 obtain⟨eP,ew,eK,ec,eA,eex,S5,es0,epn⟩:=eX
 have eL:X'.env.locals=C:=by rw [S5];rfl
 have cells':∀ y c,X'.env.cells.lookup y=some c→X.env.cells.lookup y=some c:=fun y c e=>by rw [S5] at e;exact fP.zp e
 have efs:X'.fs=frs X.stack:=by subst hX';rfl
 have N6:∀ b∈X'.fs,b=X.env.locals∨b∈X.fs:=fun b hb=>List.mem_cons.mp (I.rE b (by rw [← efs];exact hb))
 have S6:∀ {pn:List (Addr × Obj)}{H':Hp},(∀ p∈pn,p.1=D)→(∀ b∈fp,H' b=none)→∀ b∈fp,qH X' pn H' b:=fun {pn H'} hp hn b hb=>by
   refine⟨hn b hb,?_,fun z=>?_,.inl (by rw [eex];exact hb),fun y c e=>(hf b hb).2.2.2.2.1 y c (cells' y c e),fun p hq=>?_⟩
   · rw [eL];exact (below b (hfl b hb)).1
   · rcases N6 b z with q | q
     · exact (hf b hb).2.1 q
     · exact (hf b hb).2.2.1 q
   · rw [epn,List.nil_append] at hq
     rw [hp p hq];exact Ne.symm (below b (hfl b hb)).2
 have Dfp:D∉fp:=fun z=>Nat.lt_irrefl _ (hfl D z)
 have SN:X.env.locals<D:=by have:=I.lt;rw [J7] at this;exact this
 have ltF:∀ b∈X.fs,b<D:=fun b hb=>Nat.lt_of_not_le fun z=>I.ad2 (a:=b) (by rw [J7];exact z) hb
 have Y8:∀ {b:Addr}{pn:List (Addr × Obj)}{H':Hp},D≤b→b≠C→H' b=none→(∀ p∈pn,p.1≠b)→qH X' pn H' b:=fun {b pn H'} hb hbC hn hp=>by
   refine⟨hn,by rw [eL];exact hbC,fun z=>?_,.inr (by rw [es0,J7];exact hb),fun y c e=>?_,fun p hq=>?_⟩
   · rcases N6 b z with q | q
     · rw [q] at hb;exact absurd (Nat.lt_of_lt_of_le SN hb) (Nat.lt_irrefl _)
     · exact absurd (Nat.lt_of_lt_of_le (ltF b q) hb) (Nat.lt_irrefl _)
   · obtain⟨v,o,ho,_⟩:=I.cell y c (cells' y c e)
     have:=Heap.lt_size ho
     rw [J7] at this
     exact Nat.ne_of_lt (Nat.lt_of_lt_of_le this hb)
   · rw [epn,List.nil_append] at hq
     exact hp p hq
 have outer:∀ {σ':St}{H':Hp}{s':Shared}{pn:List (Addr × Obj)},Inv X' pn σ' H' s'→Inv X pins σ H' s':=fun {σ' H' s' pn} J'=>by
   subst hX'
   refine I.call' (ch:=fp) J'.os J'.base J'.hok J'.bare fun b hb=>?_
   obtain⟨f0,f1,f2,f3,f4,f5⟩:=hf b hb
   exact⟨f3,f1,f4,f5⟩
 have Qt:∀ {b:Addr}{H':Hp},D≤b→H' b=none→qH X pins H' b:=fun {b H'} hb hn=>by
   have q:=I.Hd (H':=H') (b:=b) (by rw [J7];exact hb) hn
   exact q
 have loop:∀ s₃:Shared,s₃={ s₂ with heap:=h₁,toks:=s₂.toks+([]:List (Str × Value)).length } →
     codeAny (model X.prog X.w) X.A (.compLoop (.ListComp elt [⟨tg,iter,ifs,0⟩] scope pos) 0 (.ref it) (.ref D) (compEnvC scope (lQ X.env scope.names []) C X.env)) (RR (.ref D) C) s₃:=by
   rintro s₃ rfl
   refine z8 (fun k s'=>∃ (i:Nat) (ys:List V) (its:List Value) (σ0 σ1:Option V) (H':Hp),i≤n∧k=n+1 - i∧ys.length≤i∧Inv X' [] (σ0::σ1::σ) H' s'∧tn i s'.heap∧(∀ b∈fp,H' b=none)∧H' D=none∧Vals ys its ∧
     (∃ c,s'.heap.get? D=some { cls:=.type "list",data:=.seq its.toArray c })∧W i ys H') ?_ (n+1) ⟨0,[],[],none,none,H₂,Nat.zero_le _,rfl,Nat.le_refl _,I₁,st₁,fun b hb=>(hf b hb).1,by rw [← J7];exact I.hok.fresh (Nat.le_refl _),.nil,⟨0,hacc⟩,w0⟩
   rintro k s' ⟨i,ys,its,σ0,σ1,H',hi,rfl,hyl,I',st',fr',hD',rv,⟨c,hobj⟩,w'⟩
   rcases turn i ys H' hi hyl w' with ⟨stop,fin⟩ | ⟨go,hlt,step⟩
   · have S7:Inv X' [(D,{ cls:=.type "list",data:=.seq its.toArray c })] (σ0::σ1::σ) H' s':=I'.lE fun p hp=>by
       obtain rfl:p=(D,{ cls:=.type "list",data:=.seq its.toArray c }):=by simpa using hp
       refine⟨hobj,hD',?_,?_,fun v z=>nomatch z⟩
       · rw [eL];exact hDC
       · intro z
         rcases N6 D z with q | q
         · rw [q] at SN;exact Nat.lt_irrefl _ SN
         · exact Nat.lt_irrefl _ (ltF D q)
     have q:=T.done X' eP ew eK ec i _ s' (σ0::σ1::σ) H' (notedBy (model X.prog X.w) X.A (compEnvC scope (lQ X.env scope.names []) C X.env) fun e s'=>RR (.ref D) C (.error e) s') S7 (S6 (fun p hp=>by obtain rfl:p=(D,{ cls:=.type "list",data:=.seq its.toArray c }):=(by simpa using hp);rfl) fr') st' stop
     rw [eA] at q
     refine wpAny_mono q (fun r s4 ⟨hr,I4⟩=>?_) fun _ _ z=>z
     subst hr
     obtain⟨e4,n4,_⟩:=I4.pin (D,{ cls:=.type "list",data:=.seq its.toArray c }) (List.mem_append_right _ (by simp))
     have O4:=outer I4
     obtain⟨m4,ns4,_⟩:=I4.loc
     rw [eL] at ns4
     refine hRR D C s4 H' ys m4 (O4.track (Qt (Nat.le_refl _) n4) (Nat.le_trans I.sz (by rw [J7];exact Nat.le_refl _)) ⟨Nat.le_trans hyl (Nat.le_trans hi hsz),its,c,rv,e4⟩) n4 (Qt (by rw [hC];exact Nat.le_succ _) ?_) ns4 fin
     rw [zL (Ne.symm hDC)]
     have:=I4.free
     rw [eL] at this
     exact this
   · have S7:Inv X' [(D,{ cls:=.type "list",data:=.seq its.toArray c })] (σ0::σ1::σ) H' s':=I'.lE fun p hp=>by
       obtain rfl:p=(D,{ cls:=.type "list",data:=.seq its.toArray c }):=by simpa using hp
       refine⟨hobj,hD',?_,?_,fun v z=>nomatch z⟩
       · rw [eL];exact hDC
       · intro z
         rcases N6 D z with q | q
         · rw [q] at SN;exact Nat.lt_irrefl _ SN
         · exact Nat.lt_irrefl _ (ltF D q)
     have pd:∀ p∈[(D,({ cls:=.type "list",data:=.seq its.toArray c }:Obj))],p.1=D:=fun p hp=>by obtain rfl:p=(D,{ cls:=.type "list",data:=.seq its.toArray c }):=(by simpa using hp);rfl
     have q:=T.item X' eP ew eK ec i _ s' (σ0::σ1::σ) H' (notedBy (model X.prog X.w) X.A (compEnvC scope (lQ X.env scope.names []) C X.env) fun e s'=>RR (.ref D) C (.error e) s') S7 (S6 pd fr') st' go
     rw [eA] at q
     refine wpAny_mono q (fun r s4 ⟨u,hr,h4⟩=>?_) fun _ _ z=>z
     subst hr
     refine wpAny_mono h4 (fun _ s5 ⟨xv,H5,I5,r5,y5,R4,fr5⟩=>?_) fun _ _ z=>z
     have I5':=I5.pinned (S6 pd fr5) (T.obj _ _ R4)
     rw [← S5]
     have g6:=step xv H5 y5 σ0 σ1
     have q6:=(hg C s₂ H₂ fp) (([(D,({ cls:=.type "list",data:=.seq its.toArray c }:Obj))])++uv fp s5.heap) s5 (σ0::σ1::σ) H5 xv u _ (by rw [hX'];exact I5') r5 g6
     rw [hX',eP,ew,eA] at q6
     refine wpAny_mono q6 (fun _ s6 ⟨ρ,H6,I6,⟨u',v',eρ⟩,t6⟩=>?_) (fun _ _ z=>by subst hX';exact (show False from z).elim)
     subst eρ
     have q7:=(ht C s₂ H₂ fp) _ s6 (u'::v'::σ) H6 _ (by rw [hX'];exact I6) t6
     rw [hX',eP,ew,eA] at q7
     refine wpAny_mono q7 (fun ok s7 ⟨H7,I7,w7⟩=>?_) (fun _ _ z=>by subst hX';exact (show False from z).elim)
     have aiI:∀ {s8:Shared}{H8:Hp}{pn:List (Addr × Obj)},Inv X' (pn++(([(D,({ cls:=.type "list",data:=.seq its.toArray c }:Obj))])++uv fp s5.heap)) (u'::v'::σ) H8 s8→True:=fun _=>trivial
     cases ok with
     | false =>
       obtain⟨e7,n7,_⟩:=I7.pin (D,{ cls:=.type "list",data:=.seq its.toArray c }) (List.mem_append_right _ (List.mem_append_left _ (by simp)))
       refine⟨n+1 - (i+1),by omega,i+1,ys,its,u',v',H7,hlt,rfl,Nat.le_succ_of_le hyl,I7.lE (Ma:=[]) fun p hp=>absurd hp (by simp),?_,fun b hb=>?_,n7,rv,⟨c,e7⟩,w7⟩
       · refine T.keep _ _ _ R4 fun b hb o e=>?_
         exact (I7.pin (b,o) (List.mem_append_right _ (List.mem_append_right _ (xC hb e)))).1
       · obtain⟨o,e,d⟩:=T.obj _ _ R4 b hb
         exact (I7.pin (b,o) (List.mem_append_right _ (List.mem_append_right _ (xC hb e)))).2.1
     | true =>
       have q8:=(he C s₂ H₂ fp) _ s7 (u'::v'::σ) H7 (fun z H''=>W (i+1) (ys++[z]) H'') (by rw [hX'];exact I7) w7
       rw [hX',eP,ew,eA] at q8
       refine wpAny_mono q8 (fun u8 s8 ⟨v8,H8,I8,r8,w8⟩=>?_) (fun _ _ z=>by subst hX';exact (show False from z).elim)
       obtain⟨e7,n7,_⟩:=I8.pin (D,{ cls:=.type "list",data:=.seq its.toArray c }) (List.mem_append_right _ (List.mem_append_left _ (by simp)))
       refine append_at (hsz:=by rw [List.size_toArray,← rv.length];exact Nat.le_trans hyl (Nat.le_trans hi hsz)) e7 fun h8 sb8 g8=>?_
       have I9:Inv X' [] (u'::v'::σ) H8 { s8 with heap:=h8,toks:=s8.toks }:=(I8.lE (Ma:=[]) fun p hp=>absurd hp (by simp)).turned (t':=s8.toks) (it:=D) (fun b o hb e=>(sb8.2 b hb).trans e) n7 (by rw [eL];exact hDC) (.inr (by rw [es0,J7];exact Nat.le_refl _))
         (Y8 (H':=H8) (pn:=[]) (Nat.le_refl _) hDC n7 (fun p hp=>absurd hp (by simp))).2.2.2.2.1 (fun p hp=>by rw [epn] at hp;exact absurd hp (by simp))
       refine⟨n+1 - (i+1),by omega,i+1,ys++[v8],its++[u8],u',v',H8,hlt,rfl,by rw [List.length_append,List.length_singleton];omega,I9,?_,fun b hb=>?_,n7,rv.append (.cons r8 .nil),⟨c+1,?_⟩,w8⟩
       · refine T.keep _ _ _ R4 fun b hb o e=>?_
         have e':=(I8.pin (b,o) (List.mem_append_right _ (List.mem_append_right _ (xC hb e)))).1
         exact (sb8.2 b (fun z=>Dfp (z ▸ hb))).trans e'
       · obtain⟨o,e,d⟩:=T.obj _ _ R4 b hb
         exact (I8.pin (b,o) (List.mem_append_right _ (List.mem_append_right _ (xC hb e)))).2.1
       · rw [g8,List.push_toArray]
 exact codeAny_compStart_list (loop _ rfl) (T.self X.A 0 _ _ _ st₁ (loop _ rfl))
theorem Y9 (K:pI X scope x y M) (hc:X.calm=true) (hi:PI X tg iter wi) (hg:∀ (C:Addr) (s₂:Shared) (H₂:Hp) (fp:List Addr),PG (eE X scope C x y M s₂ H₂ fp) tg g) (ht:∀ (C:Addr) (s₂:Shared) (H₂:Hp) (fp:List Addr),Ep (eE X scope C x y M s₂ H₂ fp) ifs tc) (he:∀ (C:Addr) (s₂:Shared) (H₂:Hp) (fp:List Addr),PE (eE X scope C x y M s₂ H₂ fp) elt te)
   (hs:∀ x,foldedSetIterable iter X.env x=pure x:=by intro _;rfl):PE X (.ListComp elt [⟨tg,iter,ifs,0⟩] scope pos) (Y7 wi g tc te):=by
 intro pins s σ H Q I h
 rw [eval_ListComp]
 refine wpAny_comprehension_free (use:=none) rfl hs (K.base.closure I.ok) K.base.kind K.base.names (fM (hi pins s σ H _ I h) fun v s1 h1=>fM h1 fun itv s2 h2=>?_)
 obtain⟨it,fp,tn,J,H2,e,I2,T,st2,f2,n,W,hsz,w0,turn⟩:=h2
 subst e
 refine Ds (RR:=fun acc C=>compPost (model X.prog X.w) X.A X.xe none (EP X pins σ Q) acc C) K hc I2 hg ht he T st2 f2 hsz (F:=fun ys H=>∀ p,H p=none→Q (.ref p) (upd H p (.lst ys))) w0 turn ?_
 intro D C s' H' ys m I' n' fC ns fin
 refine⟨m,ns,fun h' sb=>?_⟩
 obtain⟨f0,f1,f2,f3,f4,f5⟩:=fC
 exact⟨.ref D,_,I'.turned (t':=s'.toks) (it:=C) (fun b o hb e=>(sb.2 b hb).trans e) f0 f1 f3 f4 f5,rfl,fin D n'⟩
end
end L2
namespace L2
open PySem PySem.Spec PyProof.Rows PySem.Calls
section
variable {X:Cx}{scope:Scope}{x y:Str}{M:List Str}{elt iter:Expr}{ifs:List Expr}{pos p1 p2 p3:Pos}{kk:Nat}{te:TE}{wi:TI}{tc:TT}
structure N7 (K:PySem.W.Frag) (J:It) (tc:TT) (te:TE) (σ:St) (H1:Hp) (Q:VK):Prop where
 ex:∃ (n:Nat) (W:Nat→List V→Hp→Prop),n≤sizeLine∧W 0 [] H1∧∀ i ys H,i≤n→ys.length≤i→W i ys H →
   (J.stop i H∧∀ p,H p=none→Q (.ref p) (upd H p (.lst ys)))∨(J.go i H∧i<n∧∀ z H',J.V2 i H z H'→∃ (p:Addr) (a b:V),z=.ref p∧jJ K H' p [a,b]∧tc (some a::some b::σ) H' fun c H3=>if c=true then te (some a::some b::σ) H3 fun z H4=>W (i+1) (ys++[z]) H4 else W (i+1) ys H3)
def Za (K:PySem.W.Frag) (wi:TI) (tc:TT) (te:TE):TE:=fun σ H Q=>wi σ H fun J H1=>N7 K J tc te σ H1 Q
theorem Zb (K:pI X scope x y M) (hc:X.calm=true) {C:Addr}{s₂:Shared}{H₂:Hp}{fp:List Addr}:PG (eE X scope C x y M s₂ H₂ fp) (.Tuple [.Name x p1,.Name y p2] kk p3) (aib X.K 2 (XC (bC 0) (XC (bC 1) aia))) :=
 j5 (X:=eE X scope C x y M s₂ H₂ fp) hc (yB (zX K.nd2 rfl (.inl (lookup_relabel_local K.base.loc)) (.inr (lookup_relabel_local K.base.loc))) (yB (zX K.nd2 rfl (.inl (lookup_relabel_local K.aiF)) (.inr (lookup_relabel_local K.aiF))) xL))
theorem nQ (K:pI X scope x y M) (hc:X.calm=true) (hi:PI X (.Tuple [.Name x p1,.Name y p2] kk p3) iter wi) (ht:∀ (C:Addr) (s₂:Shared) (H₂:Hp) (fp:List Addr),Ep (eE X scope C x y M s₂ H₂ fp) ifs tc) (he:∀ (C:Addr) (s₂:Shared) (H₂:Hp) (fp:List Addr),PE (eE X scope C x y M s₂ H₂ fp) elt te)
   (hs:∀ x,foldedSetIterable iter X.env x=pure x:=by intro _;rfl):PE X (.ListComp elt [⟨.Tuple [.Name x p1,.Name y p2] kk p3,iter,ifs,0⟩] scope pos) (Za X.K wi tc te):=by
 intro pins s σ H Q I h
 have q:=Y9 (pos:=pos) K hc (wi:=fun σ0 H0 R0=>∃ R,wi σ0 H0 R∧∀ J H1,R J H1→R0 J H1) (GC hi fun σ H R ⟨R1,a,b⟩=>⟨R1,a,b⟩) (fun C s₂ H₂ fp=>Zb (p1:=p1) (p2:=p2) (p3:=p3) (kk:=kk) K hc) ht he hs pins s σ H Q I
 refine q ⟨_,h,fun J H1 r=>?_⟩
 obtain⟨n,W,h1,h2,h3⟩:=r.ex
 refine⟨n,W,h1,h2,fun i ys H' hi hy hw=>?_⟩
 rcases h3 i ys H' hi hy hw with hq | ⟨g1,g2,g3⟩
 · exact .inl hq
 · refine .inr ⟨g1,g2,fun z H2 hz u v=>?_⟩
   obtain⟨p,a,b,e,hq,t⟩:=g3 z H2 hz
   exact⟨p,[a,b],e,hq,rfl,a,[b],rfl,b,[],rfl,rfl,⟨_,_,rfl⟩,t⟩
end
theorem nR {K:PySem.W.Frag}{a:Addr}{xs:List V}{tc:TT}{te:TE}{σ:St}{H:Hp}{Q:VK} (hz:xs.length≤sizeLine) (W:Nat→List V→Hp→Prop) (h0:W 0 [] H) (hq:∀ i ys H,W i ys H→cB K H a xs)
   (hs:∀ i x ys H,xs[i]? = some x→ys.length≤i→W i ys H→∃ (p:Addr) (u v:V),x=.ref p∧jJ K H p [u,v]∧tc (some u::some v::σ) H fun c H3=>if c=true then te (some u::some v::σ) H3 fun z H4=>W (i+1) (ys++[z]) H4 else W (i+1) ys H3)
   (hd:∀ ys H,W xs.length ys H→∀ p,H p=none→Q (.ref p) (upd H p (.lst ys))):N7 K (Itl K a) tc te σ H Q:=by
 refine⟨xs.length,W,hz,h0,fun i ys H hi hl hw=>?_⟩
 have q:=hq i ys H hw
 by_cases hlt:i<xs.length
 · refine .inr ⟨⟨xs,xs[i],q,by simp [hlt]⟩,hlt,fun v H' y=>?_⟩
   obtain⟨e,y⟩:=y
   subst e
   exact hs i v ys _ (y xs q) hl hw
 · have e:i=xs.length:=by omega
   subst e
   exact .inl ⟨⟨xs,q,Nat.le_refl _⟩,hd ys H hw⟩
section
variable {prog:Program}{w:World}{A:Around}{E:Value→Shared→Prop}{s:Shared}
end
section
variable {X:Cx}
end
section
variable {X:Cx}{tg:Expr}
end
end L2
namespace L2
open PySem PySem.Spec PyProof.Rows PySem.Calls
end L2
namespace L2
open PySem PySem.Spec PyProof.Rows PySem.Calls
end L2
namespace L2
open PySem PySem.Spec PyProof.Rows PySem.Calls
open PySem.W (tabObj CodeHd kla_obj kla_fn)
structure Qu where
 qual:Str
 params:Arguments
 body:Expr
 scope:Scope
 x:Str
 y:Str
def MJ (P:Addr) (H H':Hp):Prop:=∀ b u,b≠P→H b=some u→H' b=some u
theorem MJ.trans {P:Addr}{H H1 H2:Hp} (a:MJ P H H1) (b:MJ P H1 H2):MJ P H H2:=fun c u n e=>b c u n (a c u n e)
theorem MJ.refl {P:Addr}{H:Hp}:MJ P H H:=fun _ _ _ e=>e
theorem IsCell.one {h1 h2:Heap}{c:Addr}{v:Option Value} (x:h1.IsCell c v) (k:∀ o,h1.get? c=some o→h2.get? c=some o):h2.IsCell c v :=
 let ⟨o,ho,hd⟩:=x; ⟨o,k o ho,hd⟩
structure Qu.Ok (D:Qu):Prop where
 kind:D.scope.kind=.function
 co:D.scope.isCoroutine=false
 gen:D.scope.isGenerator=false
 names:D.scope.names=[(D.x,.local),(D.y,.free)]
 ne:D.x≠D.y
 bind:∀ (cc:Addr) (pm cdv ct u:Value),bindArgs (kla_fn "<lambda>" D.qual D.params D.body D.scope [(D.y,cc)] pm cdv ct) ⟨[u],[]⟩=pure [(D.x,u)]
theorem Qu.Ok.lx {D:Qu} (O:D.Ok):D.scope.names.lookup D.x=some .local:=by rw [O.names,List.lookup_cons,beq_self_eq_true]
theorem Qu.Ok.ly {D:Qu} (O:D.Ok):D.scope.names.lookup D.y=some .free:=by
 rw [O.names,List.lookup_cons,beq_eq_false_iff_ne.mpr O.ne.symm,List.lookup_cons,beq_self_eq_true]
theorem Qu.Ok.of {D:Qu} (O:D.Ok) {x:Str}{k:NameKind} (h:D.scope.names.lookup x=some k):(x=D.x∧k=.local)∨(x=D.y∧k=.free):=by
 rw [O.names,List.lookup_cons] at h
 cases e:x == D.x with
 | true=>rw [e] at h;cases h;exact .inl ⟨eq_of_beq e,rfl⟩
 | false =>
   rw [e,List.lookup_cons] at h
   cases e2:x == D.y with
   | true=>rw [e2] at h;cases h;exact .inr ⟨eq_of_beq e2,rfl⟩
   | false=>rw [e2] at h;cases h
end L2
namespace L2
open PySem PySem.Spec PyProof.Rows PySem.Calls
open PySem.W (tabObj CodeHd kla_obj kla_fn)
end L2
namespace L2
open PySem PySem.Spec PyProof.Rows PySem.Calls
open PySem.W (tabObj CodeHd kla_obj kla_fn)
end L2
namespace L2
open PySem PySem.Spec PyProof.Rows PySem.Calls
section
variable {X:Cx}
end
end L2
namespace L2
open PySem PySem.Spec PyProof.Rows PySem.Calls
section
variable {X:Cx}
end
end L2
namespace L2
open PySem PySem.Spec
theorem Dt {X:Cx}{s:Stmt}:PS X s (fun _ _ _=>False):=fun _ _ _ _ _ _ h=>h.elim
end L2
namespace L2
open PySem PySem.Spec PyProof.Rows PySem.Calls
section
variable {X:Cx}
def TJ:=St→Hp→(Hp→Prop)→Prop
def JP (X:Cx) (n:Nat) (es:List Expr) (t:TJ):Prop:=∀ (out:Str) (pins:List (Addr × Obj)) (s:Shared) (σ:St) (H:Hp) (Q:VK),out.length≤n→Inv X pins σ H s→t σ H (fun H1=>∀ y,Q (.str y) H1)→wpAny (model X.prog X.w) X.A (joinParts out (evalEach es X.env)) (EP X pins σ Q) X.xe s
theorem Zc {n:Nat} (hn:n≤16777216:=by symm):JP X n [] (fun σ H K=>K H):=by
 intro out pins s σ H Q ho I h
 refine joinParts_nilE (joinParts_nil ⟨.str _,H,I.tok _,⟨_,rfl⟩,h _⟩ ?_)
 rw [sizeLine_eq];omega
theorem aiK {n:Nat}{c:Str}{j:Nat}{p:Pos}{es:List Expr}{t:TJ} (h:JP X (n+c.length) es t) (hn:n+c.length≤16777216:=by symm):JP X n (.Constant (.str c) j p::es) t:=by
 intro out pins s σ H Q ho I ht
 have hl:(out++c).length≤n+c.length:=by rw [strLen_append];omega
 exact joinParts_consE (joinParts_cons (Calls.Constant_str ⟨by rw [sizeLine_eq];omega,h _ pins _ σ H Q hl (I.tok _) ht⟩))
theorem Qv {v1 v2:Expr}{rest:List Expr}{pos:Pos}{t:TJ} (h:JP X 0 (v1::v2::rest) t):PE X (.JoinedStr (v1::v2::rest) pos) (fun σ H Q=>t σ H fun H1=>∀ y,Q (.str y) H1):=by
 intro pins s σ H Q I ht
 exact JoinedStr_many (h Str.empty pins s σ H Q (Nat.le_refl _) I ht)
end
end L2
namespace L2
open PySem PySem.Spec PyProof.Rows PySem.Calls
section
variable {X:Cx}
end
end L2
namespace L2
open PySem PySem.Spec PyProof.Rows PySem.Calls
section
variable {X:Cx}{scope:Scope}{x y:Str}{M:List Str}{tg elt iter:Expr}{ifs:List Expr}{pos p1 p2 p3:Pos}{kk:Nat}{te:TE}{wi:TI}{tc:TT}{g:TG}
theorem Zd {i:Nat}{z:Str}{spos py:Pos} (hN:X.N.Nodup) (hy:X.N[i]? = some z) (hl:Loc X.env.scope z) (K:pI X scope x y M) (hc:X.calm=true) (hi:PI X tg iter wi) (hg:∀ (C:Addr) (s₂:Shared) (H₂:Hp) (fp:List Addr),PG (eE X scope C x y M s₂ H₂ fp) tg g) (ht:∀ (C:Addr) (s₂:Shared) (H₂:Hp) (fp:List Addr),Ep (eE X scope C x y M s₂ H₂ fp) ifs tc) (he:∀ (C:Addr) (s₂:Shared) (H₂:Hp) (fp:List Addr),PE (eE X scope C x y M s₂ H₂ fp) elt te)
   (hsw:swapsWith (.ListComp elt [⟨tg,iter,ifs,0⟩] scope pos) (some (.Name z py)) spos.line X.env=pure true)
   (hs:∀ x,foldedSetIterable iter X.env x=pure x) (hf:X.fn z=true∨X.env.scope.names.lookup z=some .local) :
   PS X (.Assign [.Name z py] (.ListComp elt [⟨tg,iter,ifs,0⟩] scope pos) spos) (abC (Y7 wi g tc te) (bC i)):=by
 intro pins s σ H Dn I h
 rw [exec_Assign_Name_used _ _ _ _ hsw]
 refine wpAny_bind (wpAny_standAt (wpAny_bind ?_))
 show wpAny _ X.A (do let _ ← comprehension (.ListComp elt [⟨tg,iter,ifs,0⟩] scope pos) scope X.env _ (newList []) false (eval iter X.env) (some (assign (.Name z py) X.env))) _ _ s
 refine wpAny_bind (fM (wpAny_comprehension_free (use:=some (assign (.Name z py) X.env)) (Q:=fun _ s'=>SP X pins Dn .next s') rfl hs (K.base.closure I.ok) K.base.kind K.base.names (fM (hi pins s σ H _ I h) fun v s1 h1=>fM h1 fun itv s2 h2=>?_)) fun _ s' hq=>wpAny_pure (wpAny_pure hq))
 obtain⟨it,fp,tn,J,H2,e,I2,T,st2,f2,n,W,hsz,w0,turn⟩:=h2
 subst e
 refine Ds (RR:=fun acc C=>compPost (model X.prog X.w) X.A X.xe (some (assign (.Name z py) X.env)) (fun _ s'=>SP X pins Dn .next s') acc C) K hc I2 hg ht he T st2 f2 hsz (F:=fun ys H=>∀ p,H p=none→Dn.nx (σ.set i (some (.ref p))) (upd H p (.lst ys))) w0 turn ?_
 intro D C s' H' ys m I' n' fC ns fin
 refine wpAny_assign_Name (Mf (v:=.ref D) I' hN hy hl rfl (fun s'' I'' ch=>?_) hf)
 obtain⟨f0,f1,f2,f3,f4,f5⟩:=fC
 obtain⟨a,sb1,ha⟩:=ch
 have hCa:C≠a:=by
   rcases ha with z | z
   · rw [z];exact f1
   · exact Ne.symm (f4 _ a z)
 refine⟨m,ns.sameBut sb1 hCa,fun h' sb=>?_⟩
 exact⟨_,_,I''.turned (t':=s''.toks) (it:=C) (fun b o hb e=>(sb.2 b hb).trans e) f0 f1 f3 f4 f5,fin D n'⟩
theorem Ze {i:Nat}{z:Str}{spos py:Pos} (hN:X.N.Nodup) (hy:X.N[i]? = some z) (hl:Loc X.env.scope z) (K:pI X scope x y M) (hc:X.calm=true) (hi:PI X (.Tuple [.Name x p1,.Name y p2] kk p3) iter wi) (ht:∀ (C:Addr) (s₂:Shared) (H₂:Hp) (fp:List Addr),Ep (eE X scope C x y M s₂ H₂ fp) ifs tc) (he:∀ (C:Addr) (s₂:Shared) (H₂:Hp) (fp:List Addr),PE (eE X scope C x y M s₂ H₂ fp) elt te)
   (hsw:swapsWith (.ListComp elt [⟨.Tuple [.Name x p1,.Name y p2] kk p3,iter,ifs,0⟩] scope pos) (some (.Name z py)) spos.line X.env=pure true:=by rfl)
   (hs:∀ x,foldedSetIterable iter X.env x=pure x:=by intro _;rfl) (hf:X.fn z=true∨X.env.scope.names.lookup z=some .local:=by first | exact .inl rfl | exact .inr rfl | assumption) :
   PS X (.Assign [.Name z py] (.ListComp elt [⟨.Tuple [.Name x p1,.Name y p2] kk p3,iter,ifs,0⟩] scope pos) spos) (abC (Za X.K wi tc te) (bC i)):=by
 intro pins s σ H D I h
 have q:=Zd (pos:=pos) (spos:=spos) hN hy hl K hc (wi:=fun σ0 H0 R0=>∃ R,wi σ0 H0 R∧∀ J H1,R J H1→R0 J H1) (GC hi fun σ H R ⟨R1,a,b⟩=>⟨R1,a,b⟩) (fun C s₂ H₂ fp=>Zb (p1:=p1) (p2:=p2) (p3:=p3) (kk:=kk) K hc) ht he hsw hs hf pins s σ H D I
 refine q ⟨_,h,fun J H1 r=>?_⟩
 obtain⟨n,W,h1,h2,h3⟩:=r.ex
 refine⟨n,W,h1,h2,fun i ys H' hi hy hw=>?_⟩
 rcases h3 i ys H' hi hy hw with hq | ⟨g1,g2,g3⟩
 · exact .inl hq
 · refine .inr ⟨g1,g2,fun z H2 hz u v=>?_⟩
   obtain⟨p,a,b,e,hq,t⟩:=g3 z H2 hz
   exact⟨p,[a,b],e,hq,rfl,a,[b],rfl,b,[],rfl,rfl,⟨_,_,rfl⟩,t⟩
end
end L2
namespace L2
open PySem PySem.Spec PyProof.Rows PySem.Calls
end L2
namespace L2
open PySem PySem.Spec PyProof.Rows PySem.Calls
section
variable {X:Cx}{pins:List (Addr × Obj)}{σ:St}{H:Hp}{s:Shared}{h':Heap}
theorem Inv.GF {t':Nat}{L:List Addr} (I:Inv X pins σ H s) (k:∀ b o,b∉L→s.heap.get? b=some o→h'.get? b=some o) (hL:∀ b∈L,qH X pins H b):Inv X pins σ H { s with heap:=h',toks:=t' }:=by
 have nit:∀ b u,H b=some u→b∉L:=fun b u e z=>by have:=(hL b z).1;rw [this] at e;cases e
 refine I.step (g':=s.gens) (d':=s.drawn) (ch:=L) (fun b hb=>?_) (fun b o _ _ hc e _=>k b o hc e) (fun b o _ _ hc e _=>⟨o.slots,k b o hc e⟩) (fun _ _ _ _ n=>n)
   (fun b o hc e=>⟨o,k b o hc e⟩) (fun _ _ e=>e) (fun _ _ _ e=>e) (fun b ps e=>⟨#[],by rw [e];simp⟩) (fun m hm=>?_) (fun b u e=>?_) I.bare
 · obtain⟨f0,f1,f2,f3,f4,f5⟩:=hL b hb
   exact⟨f3,f1,f4,f5⟩
 · obtain⟨o,es,ep,ho,r⟩:=hm
   exact⟨o,es,ep,k _ o (fun z=>(hL _ z).2.1 rfl) ho,r⟩
 · refine (I.hok b u e).stay (fun c v hc q=>k c v ?_ q) (fun _ q=>q) fun _ _ q=>q
   rcases hc with z | z
   · rw [z];exact nit b u e
   · exact nit c _ z
end
section
variable {X:Cx}{ea eb:Expr}{t:TA}{p pos tp:Pos}{elts:List Expr}{x1:Nat}
end
end L2
namespace L2
open PySem PySem.Spec PyProof.Rows PySem.Calls
end L2
namespace L2
open PySem PySem.Spec PyProof.Rows PySem.Calls
section
variable {X:Cx}{scope:Scope}{x:Str}{M:List Str}{pins:List (Addr × Obj)}{σ:St}{H₂:Hp}{s₂:Shared}{elt iter tg:Expr}{ifs:List Expr}{pos px:Pos}{te:TE}{wi:TI}{g:TG}{tc:TT}
def abW (wi:TI) (g:TG) (tc:TT) (te:TE):TE:=fun σ H Q=>wi σ H fun J H1=>∃ (n:Nat) (W:Nat→List V→Hp→Prop),n≤sizeLine∧W 0 [] H1∧∀ i ys H,i≤n→ys.length≤i→W i ys H →
 (J.stop i H∧∀ p,H p=none→Q (.ref p) (upd H p (.lst ys)))∨(J.go i H∧i<n∧∀ x H',J.V2 i H x H'→∀ u,g x (u::σ) H' fun ρ H2=>(∃ u',ρ=u'::σ)∧tc ρ H2 fun c H3=>if c=true then te ρ H3 fun z H4=>W (i+1) (ys++[z]) H4 else W (i+1) ys H3)
theorem Qw (K:fP X scope x M) (hc:X.calm=true) (I:Inv X pins σ H₂ s₂) (hg:∀ (C:Addr) (s₂:Shared) (H₂:Hp) (fp:List Addr),PG (iW X scope C x M s₂ H₂ fp) tg g) (ht:∀ (C:Addr) (s₂:Shared) (H₂:Hp) (fp:List Addr),Ep (iW X scope C x M s₂ H₂ fp) ifs tc) (he:∀ (C:Addr) (s₂:Shared) (H₂:Hp) (fp:List Addr),PE (iW X scope C x M s₂ H₂ fp) elt te)
   {it:Addr}{fp:List Addr}{tn:Nat→Heap→Prop}{J:It} (T:Turn X.prog X.w X.K tg J fp it tn) (st:tn 0 s₂.heap) (hf:∀ b∈fp,qH X pins H₂ b) {n:Nat} (hsz:n≤sizeLine) {W:Nat→List V→Hp→Prop}{F:List V→Hp→Prop}
   (w0:W 0 [] H₂) (turn:∀ i ys H,i≤n→ys.length≤i→W i ys H→(J.stop i H∧F ys H)∨(J.go i H∧i<n∧∀ x H',J.V2 i H x H'→∀ u,g x (u::σ) H' fun ρ H2=>(∃ u',ρ=u'::σ)∧tc ρ H2 fun c H3=>if c=true then te ρ H3 fun z H4=>W (i+1) (ys++[z]) H4 else W (i+1) ys H3))
   {E:Value→Shared→Prop}{RR:Value→Addr→Result→Shared→Prop}
   (hRR:∀ (D C:Addr) (s':Shared) (H':Hp) (ys:List V) (m:Str→Option Value),Inv X pins σ (upd H' D (.lst ys)) s'→H' D=none→qH X pins (upd H' D (.lst ys)) C→s'.heap.Ns C m→F ys H'→RR (.ref D) C (.ok .next) s') :
   wpAny (model X.prog X.w) X.A (newList []) (fun acc s₃=>wpAny (model X.prog X.w) X.A (newFunctionEnv scope X.env.globals (lQ X.env scope.names []) [] X.env.qual none .none (some X.env)) (fun cenv s₄ =>
     codeAny (model X.prog X.w) X.A (.compStart (.ListComp elt [⟨tg,iter,ifs,0⟩] scope pos) 0 (.ref it) acc { cenv with scope:=relabel scope X.env }) (RR acc cenv.locals) s₄) E s₃) E s₂:=by
 refine wpAny_newObj_type (wpAny_newFunctionEnv K.cell (by intro y hy;simp at hy) (fun h₁ hns₁ hsb₁=>?_) K.kind)
 dsimp only at hns₁ hsb₁ ⊢
 generalize hH2:s₂.heap.push { cls:=.type "list",dict:=none,data:=.seq ([]:List Value).toArray } = H2 at hns₁ hsb₁ ⊢
 have hC:H2.objs.size=s₂.heap.objs.size+1:=by rw [← hH2,Heap.size_push]
 have hDC:s₂.heap.objs.size≠H2.objs.size:=by rw [hC];exact Nat.ne_of_lt (Nat.lt_succ_self _)
 have below:∀ b,b<s₂.heap.objs.size→b≠H2.objs.size∧b≠s₂.heap.objs.size:=fun b hb=>⟨by rw [hC];exact Nat.ne_of_lt (Nat.lt_succ_of_lt hb),Nat.ne_of_lt hb⟩
 have hfl:∀ b∈fp,b<s₂.heap.objs.size:=fun b hb=>by obtain⟨o,e,_⟩:=T.obj _ _ st b hb;exact Heap.lt_size e
 have old:∀ b o,s₂.heap.get? b=some o→h₁.get? b=some o:=fun b o e=>hsb₁.extBut b o (below b (Heap.lt_size e)).1 (Heap.get?_push_of_some _ (hH2 ▸ Heap.get?_push_of_some _ e))
 have hacc:h₁.get? s₂.heap.objs.size=some { cls:=.type "list",data:=.seq ([]:List Value).toArray 0 }:=hsb₁.extBut _ _ hDC (Heap.get?_push_of_some _ (hH2 ▸ Heap.get?_push_size _ rfl))
 generalize hCC:H2.objs.size=C at *
 generalize J7:s₂.heap.objs.size=D at *
 have hCle:s₂.heap.objs.size≤C:=by rw [J7,hC];exact Nat.le_succ _
 have st₁:tn 0 h₁:=T.keep _ _ _ st fun b _ o e=>old b o e
 have I₁:=Qk (t:=s₂.toks+([]:List (Str × Value)).length) K I hf (fun b hb=>by rw [J7];exact hfl b hb) hCle hns₁ old
 generalize hX':iW X scope C x M s₂ H₂ fp=X' at I₁
 have eX:X'.prog=X.prog∧X'.w=X.w∧X'.K=X.K∧X'.calm=true∧X'.A=X.A∧X'.ex=fp∧X'.env=compEnvC scope (lQ X.env scope.names []) C X.env∧X'.s₀=s₂∧X'.pn=[]:=by
   subst hX';exact⟨rfl,rfl,rfl,hc,rfl,rfl,rfl,rfl,rfl⟩
 obtain⟨eP,ew,eK,ec,eA,eex,S5,es0,epn⟩:=eX
 have eL:X'.env.locals=C:=by rw [S5];rfl
 have cells':∀ y c,X'.env.cells.lookup y=some c→X.env.cells.lookup y=some c:=fun y c e=>by rw [S5] at e;exact fP.zp e
 have efs:X'.fs=frs X.stack:=by subst hX';rfl
 have N6:∀ b∈X'.fs,b=X.env.locals∨b∈X.fs:=fun b hb=>List.mem_cons.mp (I.rE b (by rw [← efs];exact hb))
 have S6:∀ {pn:List (Addr × Obj)}{H':Hp},(∀ p∈pn,p.1=D)→(∀ b∈fp,H' b=none)→∀ b∈fp,qH X' pn H' b:=fun {pn H'} hp hn b hb=>by
   refine⟨hn b hb,?_,fun z=>?_,.inl (by rw [eex];exact hb),fun y c e=>(hf b hb).2.2.2.2.1 y c (cells' y c e),fun p hq=>?_⟩
   · rw [eL];exact (below b (hfl b hb)).1
   · rcases N6 b z with q | q
     · exact (hf b hb).2.1 q
     · exact (hf b hb).2.2.1 q
   · rw [epn,List.nil_append] at hq
     rw [hp p hq];exact Ne.symm (below b (hfl b hb)).2
 have Dfp:D∉fp:=fun z=>Nat.lt_irrefl _ (hfl D z)
 have SN:X.env.locals<D:=by have:=I.lt;rw [J7] at this;exact this
 have ltF:∀ b∈X.fs,b<D:=fun b hb=>Nat.lt_of_not_le fun z=>I.ad2 (a:=b) (by rw [J7];exact z) hb
 have Y8:∀ {b:Addr}{pn:List (Addr × Obj)}{H':Hp},D≤b→b≠C→H' b=none→(∀ p∈pn,p.1≠b)→qH X' pn H' b:=fun {b pn H'} hb hbC hn hp=>by
   refine⟨hn,by rw [eL];exact hbC,fun z=>?_,.inr (by rw [es0,J7];exact hb),fun y c e=>?_,fun p hq=>?_⟩
   · rcases N6 b z with q | q
     · rw [q] at hb;exact absurd (Nat.lt_of_lt_of_le SN hb) (Nat.lt_irrefl _)
     · exact absurd (Nat.lt_of_lt_of_le (ltF b q) hb) (Nat.lt_irrefl _)
   · obtain⟨v,o,ho,_⟩:=I.cell y c (cells' y c e)
     have:=Heap.lt_size ho
     rw [J7] at this
     exact Nat.ne_of_lt (Nat.lt_of_lt_of_le this hb)
   · rw [epn,List.nil_append] at hq
     exact hp p hq
 have outer:∀ {σ':St}{H':Hp}{s':Shared}{pn:List (Addr × Obj)},Inv X' pn σ' H' s'→Inv X pins σ H' s':=fun {σ' H' s' pn} J'=>by
   subst hX'
   refine I.call' (ch:=fp) J'.os J'.base J'.hok J'.bare fun b hb=>?_
   obtain⟨f0,f1,f2,f3,f4,f5⟩:=hf b hb
   exact⟨f3,f1,f4,f5⟩
 have Qt:∀ {b:Addr}{H':Hp},D≤b→H' b=none→qH X pins H' b:=fun {b H'} hb hn=>by
   have q:=I.Hd (H':=H') (b:=b) (by rw [J7];exact hb) hn
   exact q
 have loop:∀ s₃:Shared,s₃={ s₂ with heap:=h₁,toks:=s₂.toks+([]:List (Str × Value)).length } →
     codeAny (model X.prog X.w) X.A (.compLoop (.ListComp elt [⟨tg,iter,ifs,0⟩] scope pos) 0 (.ref it) (.ref D) (compEnvC scope (lQ X.env scope.names []) C X.env)) (RR (.ref D) C) s₃:=by
   rintro s₃ rfl
   refine z8 (fun k s'=>∃ (i:Nat) (ys:List V) (its:List Value) (σ0:Option V) (H':Hp),i≤n∧k=n+1 - i∧ys.length≤i∧Inv X' [] (σ0::σ) H' s'∧tn i s'.heap∧(∀ b∈fp,H' b=none)∧H' D=none∧Vals ys its ∧
     (∃ c,s'.heap.get? D=some { cls:=.type "list",data:=.seq its.toArray c })∧W i ys H') ?_ (n+1) ⟨0,[],[],none,H₂,Nat.zero_le _,rfl,Nat.le_refl _,I₁,st₁,fun b hb=>(hf b hb).1,by rw [← J7];exact I.hok.fresh (Nat.le_refl _),.nil,⟨0,hacc⟩,w0⟩
   rintro k s' ⟨i,ys,its,σ0,H',hi,rfl,hyl,I',st',fr',hD',rv,⟨c,hobj⟩,w'⟩
   rcases turn i ys H' hi hyl w' with ⟨stop,fin⟩ | ⟨go,hlt,step⟩
   · have S7:Inv X' [(D,{ cls:=.type "list",data:=.seq its.toArray c })] (σ0::σ) H' s':=I'.lE fun p hp=>by
       obtain rfl:p=(D,{ cls:=.type "list",data:=.seq its.toArray c }):=by simpa using hp
       refine⟨hobj,hD',?_,?_,fun v z=>nomatch z⟩
       · rw [eL];exact hDC
       · intro z
         rcases N6 D z with q | q
         · rw [q] at SN;exact Nat.lt_irrefl _ SN
         · exact Nat.lt_irrefl _ (ltF D q)
     have q:=T.done X' eP ew eK ec i _ s' (σ0::σ) H' (notedBy (model X.prog X.w) X.A (compEnvC scope (lQ X.env scope.names []) C X.env) fun e s'=>RR (.ref D) C (.error e) s') S7 (S6 (fun p hp=>by obtain rfl:p=(D,{ cls:=.type "list",data:=.seq its.toArray c }):=(by simpa using hp);rfl) fr') st' stop
     rw [eA] at q
     refine wpAny_mono q (fun r s4 ⟨hr,I4⟩=>?_) fun _ _ z=>z
     subst hr
     obtain⟨e4,n4,_⟩:=I4.pin (D,{ cls:=.type "list",data:=.seq its.toArray c }) (List.mem_append_right _ (by simp))
     have O4:=outer I4
     obtain⟨m4,ns4,_⟩:=I4.loc
     rw [eL] at ns4
     refine hRR D C s4 H' ys m4 (O4.track (Qt (Nat.le_refl _) n4) (Nat.le_trans I.sz (by rw [J7];exact Nat.le_refl _)) ⟨Nat.le_trans hyl (Nat.le_trans hi hsz),its,c,rv,e4⟩) n4 (Qt (by rw [hC];exact Nat.le_succ _) ?_) ns4 fin
     rw [zL (Ne.symm hDC)]
     have:=I4.free
     rw [eL] at this
     exact this
   · have S7:Inv X' [(D,{ cls:=.type "list",data:=.seq its.toArray c })] (σ0::σ) H' s':=I'.lE fun p hp=>by
       obtain rfl:p=(D,{ cls:=.type "list",data:=.seq its.toArray c }):=by simpa using hp
       refine⟨hobj,hD',?_,?_,fun v z=>nomatch z⟩
       · rw [eL];exact hDC
       · intro z
         rcases N6 D z with q | q
         · rw [q] at SN;exact Nat.lt_irrefl _ SN
         · exact Nat.lt_irrefl _ (ltF D q)
     have pd:∀ p∈[(D,({ cls:=.type "list",data:=.seq its.toArray c }:Obj))],p.1=D:=fun p hp=>by obtain rfl:p=(D,{ cls:=.type "list",data:=.seq its.toArray c }):=(by simpa using hp);rfl
     have q:=T.item X' eP ew eK ec i _ s' (σ0::σ) H' (notedBy (model X.prog X.w) X.A (compEnvC scope (lQ X.env scope.names []) C X.env) fun e s'=>RR (.ref D) C (.error e) s') S7 (S6 pd fr') st' go
     rw [eA] at q
     refine wpAny_mono q (fun r s4 ⟨u,hr,h4⟩=>?_) fun _ _ z=>z
     subst hr
     refine wpAny_mono h4 (fun _ s5 ⟨xv,H5,I5,r5,y5,R4,fr5⟩=>?_) fun _ _ z=>z
     have I5':=I5.pinned (S6 pd fr5) (T.obj _ _ R4)
     rw [← S5]
     have g6:=step xv H5 y5 σ0
     have q6:=(hg C s₂ H₂ fp) (([(D,({ cls:=.type "list",data:=.seq its.toArray c }:Obj))])++uv fp s5.heap) s5 (σ0::σ) H5 xv u _ (by rw [hX'];exact I5') r5 g6
     rw [hX',eP,ew,eA] at q6
     refine wpAny_mono q6 (fun _ s6 ⟨ρ,H6,I6,⟨u',eρ⟩,t6⟩=>?_) (fun _ _ z=>by subst hX';exact (show False from z).elim)
     subst eρ
     have q7:=(ht C s₂ H₂ fp) _ s6 (u'::σ) H6 _ (by rw [hX'];exact I6) t6
     rw [hX',eP,ew,eA] at q7
     refine wpAny_mono q7 (fun ok s7 ⟨H7,I7,w7⟩=>?_) (fun _ _ z=>by subst hX';exact (show False from z).elim)
     have aiI:∀ {s8:Shared}{H8:Hp}{pn:List (Addr × Obj)},Inv X' (pn++(([(D,({ cls:=.type "list",data:=.seq its.toArray c }:Obj))])++uv fp s5.heap)) (u'::σ) H8 s8→True:=fun _=>trivial
     cases ok with
     | false =>
       obtain⟨e7,n7,_⟩:=I7.pin (D,{ cls:=.type "list",data:=.seq its.toArray c }) (List.mem_append_right _ (List.mem_append_left _ (by simp)))
       refine⟨n+1 - (i+1),by omega,i+1,ys,its,u',H7,hlt,rfl,Nat.le_succ_of_le hyl,I7.lE (Ma:=[]) fun p hp=>absurd hp (by simp),?_,fun b hb=>?_,n7,rv,⟨c,e7⟩,w7⟩
       · refine T.keep _ _ _ R4 fun b hb o e=>?_
         exact (I7.pin (b,o) (List.mem_append_right _ (List.mem_append_right _ (xC hb e)))).1
       · obtain⟨o,e,d⟩:=T.obj _ _ R4 b hb
         exact (I7.pin (b,o) (List.mem_append_right _ (List.mem_append_right _ (xC hb e)))).2.1
     | true =>
       have q8:=(he C s₂ H₂ fp) _ s7 (u'::σ) H7 (fun z H''=>W (i+1) (ys++[z]) H'') (by rw [hX'];exact I7) w7
       rw [hX',eP,ew,eA] at q8
       refine wpAny_mono q8 (fun u8 s8 ⟨v8,H8,I8,r8,w8⟩=>?_) (fun _ _ z=>by subst hX';exact (show False from z).elim)
       obtain⟨e7,n7,_⟩:=I8.pin (D,{ cls:=.type "list",data:=.seq its.toArray c }) (List.mem_append_right _ (List.mem_append_left _ (by simp)))
       refine append_at (hsz:=by rw [List.size_toArray,← rv.length];exact Nat.le_trans hyl (Nat.le_trans hi hsz)) e7 fun h8 sb8 g8=>?_
       have I9:Inv X' [] (u'::σ) H8 { s8 with heap:=h8,toks:=s8.toks }:=(I8.lE (Ma:=[]) fun p hp=>absurd hp (by simp)).turned (t':=s8.toks) (it:=D) (fun b o hb e=>(sb8.2 b hb).trans e) n7 (by rw [eL];exact hDC) (.inr (by rw [es0,J7];exact Nat.le_refl _))
         (Y8 (H':=H8) (pn:=[]) (Nat.le_refl _) hDC n7 (fun p hp=>absurd hp (by simp))).2.2.2.2.1 (fun p hp=>by rw [epn] at hp;exact absurd hp (by simp))
       refine⟨n+1 - (i+1),by omega,i+1,ys++[v8],its++[u8],u',H8,hlt,rfl,by rw [List.length_append,List.length_singleton];omega,I9,?_,fun b hb=>?_,n7,rv.append (.cons r8 .nil),⟨c+1,?_⟩,w8⟩
       · refine T.keep _ _ _ R4 fun b hb o e=>?_
         have e':=(I8.pin (b,o) (List.mem_append_right _ (List.mem_append_right _ (xC hb e)))).1
         exact (sb8.2 b (fun z=>Dfp (z ▸ hb))).trans e'
       · obtain⟨o,e,d⟩:=T.obj _ _ R4 b hb
         exact (I8.pin (b,o) (List.mem_append_right _ (List.mem_append_right _ (xC hb e)))).2.1
       · rw [g8,List.push_toArray]
 exact codeAny_compStart_list (loop _ rfl) (T.self X.A 0 _ _ _ st₁ (loop _ rfl))
theorem Wj (K:fP X scope x M) (hc:X.calm=true) (hi:PI X tg iter wi) (hg:∀ (C:Addr) (s₂:Shared) (H₂:Hp) (fp:List Addr),PG (iW X scope C x M s₂ H₂ fp) tg g) (ht:∀ (C:Addr) (s₂:Shared) (H₂:Hp) (fp:List Addr),Ep (iW X scope C x M s₂ H₂ fp) ifs tc) (he:∀ (C:Addr) (s₂:Shared) (H₂:Hp) (fp:List Addr),PE (iW X scope C x M s₂ H₂ fp) elt te)
   (hs:∀ x,foldedSetIterable iter X.env x=pure x:=by intro _;rfl):PE X (.ListComp elt [⟨tg,iter,ifs,0⟩] scope pos) (abW wi g tc te):=by
 intro pins s σ H Q I h
 rw [eval_ListComp]
 refine wpAny_comprehension_free (use:=none) rfl hs (K.closure I.ok) K.kind K.names (fM (hi pins s σ H _ I h) fun v s1 h1=>fM h1 fun itv s2 h2=>?_)
 obtain⟨it,fp,tn,J,H2,e,I2,T,st2,f2,n,W,hsz,w0,turn⟩:=h2
 subst e
 refine Qw (RR:=fun acc C=>compPost (model X.prog X.w) X.A X.xe none (EP X pins σ Q) acc C) K hc I2 hg ht he T st2 f2 hsz (F:=fun ys H=>∀ p,H p=none→Q (.ref p) (upd H p (.lst ys))) w0 turn ?_
 intro D C s' H' ys m I' n' fC ns fin
 refine⟨m,ns,fun h' sb=>?_⟩
 obtain⟨f0,f1,f2,f3,f4,f5⟩:=fC
 exact⟨.ref D,_,I'.turned (t':=s'.toks) (it:=C) (fun b o hb e=>(sb.2 b hb).trans e) f0 f1 f3 f4 f5,rfl,fin D n'⟩
structure S8 (J:It) (tc:TT) (te:TE) (σ:St) (H1:Hp) (Q:VK):Prop where
 ex:∃ (n:Nat) (W:Nat→List V→Hp→Prop),n≤sizeLine∧W 0 [] H1∧∀ i ys H,i≤n→ys.length≤i→W i ys H →
   (J.stop i H∧∀ p,H p=none→Q (.ref p) (upd H p (.lst ys)))∨(J.go i H∧i<n∧∀ z H',J.V2 i H z H'→tc (some z::σ) H' fun c H3=>if c=true then te (some z::σ) H3 fun z H4=>W (i+1) (ys++[z]) H4 else W (i+1) ys H3)
def aes (wi:TI) (tc:TT) (te:TE):TE:=fun σ H Q=>wi σ H fun J H1=>S8 J tc te σ H1 Q
theorem abX (K:fP X scope x M) {C:Addr}{s₂:Shared}{H₂:Hp}{fp:List Addr}:PG (iW X scope C x M s₂ H₂ fp) (.Name x px) (bC 0) :=
 zX K.nd rfl (.inl (lookup_relabel_local K.loc)) (.inr (lookup_relabel_local K.loc))
theorem z9 (K:fP X scope x M) (hc:X.calm=true) (hi:PI X (.Name x px) iter wi) (ht:∀ (C:Addr) (s₂:Shared) (H₂:Hp) (fp:List Addr),Ep (iW X scope C x M s₂ H₂ fp) ifs tc) (he:∀ (C:Addr) (s₂:Shared) (H₂:Hp) (fp:List Addr),PE (iW X scope C x M s₂ H₂ fp) elt te)
   (hs:∀ x,foldedSetIterable iter X.env x=pure x:=by intro _;rfl):PE X (.ListComp elt [⟨.Name x px,iter,ifs,0⟩] scope pos) (aes wi tc te):=by
 intro pins s σ H Q I h
 have q:=Wj (pos:=pos) K hc (wi:=fun σ0 H0 R0=>∃ R,wi σ0 H0 R∧∀ J H1,R J H1→R0 J H1) (GC hi fun σ H R ⟨R1,a,b⟩=>⟨R1,a,b⟩) (fun C s₂ H₂ fp=>abX (px:=px) K) ht he hs pins s σ H Q I
 refine q ⟨_,h,fun J H1 r=>?_⟩
 obtain⟨n,W,h1,h2,h3⟩:=r.ex
 refine⟨n,W,h1,h2,fun i ys H' hi hy hw=>?_⟩
 rcases h3 i ys H' hi hy hw with hq | ⟨g1,g2,g3⟩
 · exact .inl hq
 · exact .inr ⟨g1,g2,fun z H2 hz u=>⟨⟨_,rfl⟩,g3 z H2 hz⟩⟩
theorem Qx {X:Cx}{ifs:List Expr}{t u:TT} (h:Ep X ifs t) (e:t=u):Ep X ifs u:=e ▸ h
end
theorem wO {K:PySem.W.Frag}{a:Addr}{xs:List V}{tc:TT}{te:TE}{σ:St}{H:Hp}{Q:VK} (hz:xs.length≤sizeLine) (W:Nat→List V→Hp→Prop) (h0:W 0 [] H) (hq:∀ i ys H,W i ys H→cB K H a xs)
   (hs:∀ i x ys H,xs[i]? = some x→ys.length≤i→W i ys H→tc (some x::σ) H fun c H3=>if c=true then te (some x::σ) H3 fun z H4=>W (i+1) (ys++[z]) H4 else W (i+1) ys H3)
   (hd:∀ ys H,W xs.length ys H→∀ p,H p=none→Q (.ref p) (upd H p (.lst ys))):S8 (Itl K a) tc te σ H Q:=by
 refine⟨xs.length,W,hz,h0,fun i ys H hi hl hw=>?_⟩
 have q:=hq i ys H hw
 by_cases hlt:i<xs.length
 · refine .inr ⟨⟨xs,xs[i],q,by simp [hlt]⟩,hlt,fun v H' y=>?_⟩
   obtain⟨e,y⟩:=y
   subst e
   exact hs i v ys _ (y xs q) hl hw
 · have e:i=xs.length:=by omega
   subst e
   exact .inl ⟨⟨xs,q,Nat.le_refl _⟩,hd ys H hw⟩
section
variable {X:Cx}{k:Nat}{m:Str}{pos apos:Pos}{o:Expr}{ta:TE}
end
end L2
namespace L2
open PySem PySem.Spec PyProof.Rows PySem.Calls
def Ite (K:PySem.W.Frag) (a:Addr):It :=
 ⟨fun i H=>∃ xs x,cB K H a xs∧xs[i]? = some x,
  fun i H z H'=>∃ T x,z=.ref T∧H T=none∧H'=upd H T (.tup [.int i,x])∧∀ xs,cB K H a xs→xs[i]? = some x,
  fun i H=>∃ xs,cB K H a xs∧xs.length≤i⟩
def EnT (e it a:Addr) (i:Nat) (h:Heap):Prop:=(∃ old,IsEnum h e it i old)∧h.IsListIter it a i
theorem Wk {P:Program}{w:World}{K:PySem.W.Frag}{elts:List Expr}{x1:Nat}{tp:Pos}{e it a:Addr} (D:e≠it):Turn P w K (.Tuple elts x1 tp) (Ite K a) [e,it] e (EnT e it a) where
 mem:=by simp
 obj:=fun i h st c hc=>by
   obtain⟨⟨u,h1⟩,h4⟩:=st
   simp only [List.mem_cons,List.not_mem_nil,or_false] at hc
   rcases hc with q | q
   · subst q;exact⟨_,h1,fun v q=>by cases q⟩
   · subst q;obtain⟨o,e,c,d⟩:=h4;exact⟨o,e,fun v q=>by rw [d] at q;cases q⟩
 keep:=fun i h h' st k=>by
   obtain⟨⟨u,h1⟩,h4⟩:=st
   exact⟨⟨u,k _ (by simp) _ h1⟩,h4.at fun o q=>k it (by simp) o q⟩
 item:=by
   intro X hP hw hK hc i pins s σ H E I hf st hg
   subst hP hw hK
   obtain⟨xs,x,hq,hx⟩:=hg
   obtain⟨⟨old,h1⟩,h4⟩:=st
   obtain⟨its,rv,p,hz⟩:=I.list hq
   obtain⟨u,hu,ru⟩:=rv.get hx
   refine wpAny_pyNext_enum_item h1 h4 p.isList (x:=u) (by simpa using hu) D fun h' a1 a2 a3 a4 a5=>?_
   refine⟨_,rfl,wpAny_letOwnedTupleGo_enum (s:={ s with heap:=h',toks:=s.toks+1 }) a1 fun h'' b1 b2=>?_⟩
   have hT:H s.heap.objs.size=none:=I.hok.fresh (Nat.le_refl _)
   have lt:∀ c∈[e,it],c<s.heap.objs.size:=fun c hc=>by
     simp only [List.mem_cons,List.not_mem_nil,or_false] at hc
     rcases hc with q | q
     · subst q;exact Heap.lt_size h1
     · subst q;obtain⟨o,q,_⟩:=h4;exact Heap.lt_size q
   have kk:∀ c o,c∉[e,it]→s.heap.get? c=some o→h''.get? c=some o:=fun c o hc q=>by
     simp only [List.mem_cons,List.not_mem_nil,or_false,not_or] at hc
     exact (b2.2 c hc.1).trans (a5 c o hc.1 hc.2 q)
   have I1:Inv X pins σ H { s with heap:=h'',toks:=s.toks+1 }:=I.GF (t':=s.toks+1) kk hf
   have zT:s.heap.objs.size≠e:=fun q=>Nat.lt_irrefl _ (q ▸ lt e (by simp))
   have a5':=(b2.2 _ zT).trans a3
   have I2:=I1.track (a:=s.heap.objs.size) (o:=.tup [.int i,x]) (I.Hd (Nat.le_refl _) hT) I.sz ⟨by show 2≤sizeLine;decide,[.int i s.toks,u],.cons ⟨_,rfl⟩ (.cons ru .nil),⟨_,a5',rfl,_,rfl⟩⟩
   refine⟨.ref s.heap.objs.size,_,I2,rfl,⟨_,x,rfl,hT,rfl,fun zs hzs=>by rw [I.PX hzs hq];exact hx⟩,⟨⟨_,b1⟩,a2.at fun o q=>(b2.2 _ (Ne.symm D)).trans q⟩,fun c hc=>?_⟩
   rw [zL (Nat.ne_of_lt (lt c hc))];exact (hf c hc).1
 done:=by
   intro X hP hw hK hc i pins s σ H E I hf st hg
   subst hP hw hK
   obtain⟨xs,hq,hx⟩:=hg
   obtain⟨⟨old,h1⟩,h4⟩:=st
   obtain⟨its,rv,p,hz⟩:=I.list hq
   have hl:=rv.length
   refine wpAny_pyNext_enum_end (I.ok.hd hc) h1 h4 p.isList (by simp;omega) fun h' a7=>⟨rfl,I.GF (t':=s.toks) (fun c o hc q=>?_) hf⟩
   simp only [List.mem_cons,List.not_mem_nil,or_false,not_or] at hc
   exact a7 c o hc.2 q
 self:=fun _ _ _ _ _ st h=>by
   obtain⟨⟨u,h1⟩,_⟩:=st
   exact wpAny_pyIter_enum h1 h
section
variable {X:Cx}{ea:Expr}{t:TA}{p pos tp:Pos}{elts:List Expr}{x1:Nat}
def aiM (K:PySem.W.Frag) (t:TA):TI:=fun σ H R=>t σ H fun vs H1=>∃ a,vs=[.ref a]∧(∃ xs,cB K H1 a xs)∧R (Ite K a) H1
theorem Wl:bootBuiltins "enumerate" = some (.type "enumerate"):=by symm
theorem rN (hg:Gl X "enumerate") (hm:X.mg "enumerate" = none) (ha:PA X [ea] t) (hs:starEach [ea] X.env=[(false,eval ea X.env)]:=by rfl) :
   PI X (.Tuple elts x1 tp) (.Call (.Name "enumerate" p) [ea] [] pos) (aiM X.K t):=by
 intro pins s σ H R I h
 refine Call_ (Hc I hg hm Wl (PyProof.Rows.callWith_type1 (fM (ha pos pins s σ H _ I h) fun us s1 zq=>?_) (by rw [hs];rfl) (by rfl)))
 obtain⟨vs,H1,I1,r1,q1⟩:=zq
 obtain⟨a,e,⟨xs,hq⟩,q⟩:=q1
 subst e
 cases r1 with
 | cons r rr =>
   cases rr
   cases r
   obtain⟨its,rv,pl,hz⟩:=I1.list hq
   refine call_enumerate_list pl.isList fun h' z1 z2 z3 z7=>?_
   refine wpAny_pyIter_enum (s:={ s1 with heap:=h' }) z1 ?_
   have I2:Inv X pins σ H1 { s1 with heap:=h' }:=I1.kept (t':=s1.toks) z7
   refine⟨_,[s1.heap.objs.size+1,s1.heap.objs.size],_,_,H1,rfl,I2,Wk (Nat.succ_ne_self _),⟨⟨_,z1⟩,z2⟩,fun c hc=>?_,q⟩
   have hle:s1.heap.objs.size≤c:=by
     simp only [List.mem_cons,List.not_mem_nil,or_false] at hc
     rcases hc with e | e
     · rw [e];exact Nat.le_succ _
     · rw [e];exact Nat.le_refl _
   exact I1.Hd hle (I1.hok.fresh hle)
end
theorem qM {K:PySem.W.Frag}{a:Addr}{xs:List V}{g:TG}{tb:TS}{D:Ends}{σ:St}{H:Hp} (Pv:Nat→St→Hp→Prop) (h0:Pv 0 σ H) (hq:∀ i σ H,i≤xs.length→Pv i σ H→cB K H a xs)
   (hs:∀ i x σ H,xs[i]? = some x→Pv i σ H→∀ T,H T=none→g (.ref T) σ (upd H T (.tup [.int i,x])) fun σ2 H2=>tb { D with nx:=Pv (i+1),ct:=Pv (i+1),bk:=D.nx } σ2 H2) (hd:∀ σ H,Pv xs.length σ H→D.nx σ H):Yt (Ite K a) g tb D σ H:=by
 refine⟨fun i m σ H=>i≤xs.length∧m=xs.length - i∧Pv i σ H,⟨_,Nat.zero_le _,rfl,h0⟩,fun i m σ H ⟨hi,hm,hp⟩=>?_⟩
 have q1:=hq i σ H hi hp
 by_cases c:i=xs.length
 · subst c
   exact .inl ⟨⟨xs,q1,Nat.le_refl _⟩,hd σ H hp⟩
 · have hlt:i<xs.length:=by omega
   have hx:xs[i]? = some xs[i]:=List.getElem?_eq_getElem hlt
   refine .inr ⟨⟨xs,_,q1,hx⟩,Pv (i+1),fun σ' H' hn=>⟨xs.length - (i+1),by omega,by omega,rfl,hn⟩,fun z H' hz=>?_⟩
   obtain⟨T,x,rfl,hT,rfl,e1⟩:=hz
   exact hs i x σ H (e1 xs q1) hp T hT
end L2
namespace L2
open PySem PySem.Spec PyProof.Rows PySem.Calls
section
variable {X:Cx}
theorem GJ (hu:X.A.units+1<cLine):jZ X (compareOp .In) (fun x y H Q=>∃ a o,y=.ref a∧jt H a x o∧Q (.bl o.isSome) H):=by
 intro pins s σ H x y v u Q I rx ry h
 obtain⟨a,o,rfl,g,q⟩:=h
 cases ry
 exact avv hu I g rx fun s' I'=>⟨.bl _,H,I',rfl,q⟩
theorem rO (hu:X.A.units+1<cLine):jZ X (compareOp .NotIn) (fun x y H Q=>∃ a o,y=.ref a∧jt H a x o∧Q (.bl (!o.isSome)) H):=by
 intro pins s σ H x y v u Q I rx ry h
 obtain⟨a,o,rfl,g,q⟩:=h
 cases ry
 exact abL hu I g rx fun s' I'=>⟨.bl _,H,I',rfl,q⟩
end
theorem abY:typeLookup (.type "list") "keys" = pure none:=by rw [typeLookup_type,builtinLookup_eq_fast];kernel_rfl
theorem Zf {prog:Program}{w:World}{A:Around}{E:Value→Shared→Prop}{s:Shared}{a:Addr}{xs:Array Value}{k:Nat}{sl:Array (Option Value)}{Q:Option Value→Shared→Prop}
   (hx:s.heap.get? a=some ⟨.type "list",none,.seq xs k,sl⟩) (hA:A.handled=none) (h:∀ h' tk e,Heap.NewExcOf s.heap h' e "AttributeError"→Q none { s with heap:=h',toks:=tk }) :
   wpAny (model prog w) A (getAttr? (.ref a) "keys") Q E s:=by
 obtain⟨hp,g,d,tk,os⟩:=s
 have ty:∀ j,(⟨hp,g,d,j,os⟩:Shared).TypeIs (.ref a) "list":=fun _=>⟨_,hx,rfl⟩
 have a1:=sub_AttributeError
 have a3:=PySem.F.slot_list_getattribute.lookup
 have a4:=PySem.F.slot_list_getattribute.bind (.ref a)
 have a5:=am_list_getattr_none
 unfold getAttr? getAttrBy? getAttrBy
 repeat (any_goals (first
   | assumption
   | exact ty _
   | ((with_reducible show wpAny _ _ (call (Value.builtin "list.__getattribute__") _ _) _ _ _)
      refine call_meets PySem.F.slot_list_getattribute (ty _) am_entry_list_getattribute (PySem.F.args_list_getattribute_2 _ _) (meets_getattribute_miss_list a xs k sl "keys" _ abY (by decide) (by size_fits)) ⟨hx,hA,fun h' tk' e hx'=>?_⟩)
   | wp_step))
 obtain⟨t',u',he⟩:=hx'.there
 show wpAny _ _ (getattributeRaised _ _ _ _ _ _ _) _ _ _
 unfold getattributeRaised hookOrError
 repeat (any_goals (first | assumption | wp_step))
 exact h _ _ _ hx'.of
theorem Qy:entryFor table "dict.update.loop" = some Builtin.«dict.update.loop»:=entryFor_of_tree (by kernel_rfl)
end L2
namespace L2
open PySem PySem.Spec PySem.Calls PyProof.Rows
def Er (h:Heap) (d:Addr) (es:Array DictEntry) (ep:Nat):Prop:=∃ o,h.get? d=some o∧o.ExactDict∧o.data=.dict es ep
theorem Er.keep {h h':Heap}{d:Addr}{es:Array DictEntry}{ep:Nat} (x:Er h d es ep) (k:∀ o,h.get? d=some o→h'.get? d=some o):Er h' d es ep:=let ⟨o,ho,r⟩:=x; ⟨o,k o ho,r⟩
theorem Er.lt {h:Heap}{d:Addr}{es:Array DictEntry}{ep:Nat} (x:Er h d es ep):d<h.objs.size:=let ⟨_,ho,_⟩:=x;Heap.lt_size ho
section
variable {prog:Program}{w:World}{A:Around}{E:Value→Shared→Prop}{s:Shared}{d it:Addr}{es:Array DictEntry}{ep i:Nat}
theorem Er.ty (x:Er s.heap d es ep):s.TypeIs (.ref d) "dict":=let ⟨o,ho,c,_⟩:=x; ⟨o,ho,c.1⟩
theorem Zg {Q:Value→Shared→Prop} (hd:(d == sysModules)=false) (hm:Er s.heap d es ep)
   (q:Q (.ref s.heap.objs.size) { s with heap:=s.heap.push { cls:=.type "dict_keyiterator",data:=.fields #[.ref d,.int 0 0,.int es.size 0,.int ep 0] } }):wpAny (model prog w) A (pyIter (.ref d)) Q E s:=by
 obtain⟨o,ho,hc,hdat⟩:=id hm
 refine wpAny_pyIter_slot hm.ty F.slot_dict_iter (wpAny_call_entry F.slot_dict_iter hm.ty F.entry_dict_iter ?_ (F.args_dict_iter_1 _))
 unfold Builtin.«dict.__iter__»
 refine wpAny_bind ?_
 unfold Builtin.Dict.dictSlotNone
 refine wpAny_bind (wpAny_notOrdered_dict hm.ty ?_)
 refine wpAny_pure ?_
 show wpAny _ _ (Builtin.Dict.showsAll d >>= _) _ _ s
 unfold Builtin.Dict.showsAll
 rw [if_neg (by rw [hd];exact Bool.false_ne_true)]
 refine wpAny_bind (wpAny_pure (wpAny_bind (wpAny_dictEntries ho hdat (wpAny_bind (wpAny_dictEpoch ho hdat ?_)))))
 refine wpAny_bind (wpAny_newObj_type (wpAny_pure ⟨_,rfl,"dict_keyiterator",_,⟨_,Heap.get?_push_size _ rfl,rfl⟩,F.slot_dict_keyiterator_next.lookup,?_⟩))
 simpa [rawInt] using q
theorem Zh {Q:Option Value→Shared→Prop} (hit:s.heap.IsKeyIter it d i es.size ep) (hm:Er s.heap d es ep) (hi:i<es.size)
   (q:∀ h',h'.IsKeyIter it d (i+1) es.size ep→Heap.SameBut it s.heap h'→Q (some es[i].key) { s with heap:=h' }):wpAny (model prog w) A (pyNext (.ref it)) Q E s:=by
 obtain⟨o,ho,hc,hd⟩:=id hit
 obtain⟨od,hod,hcd,hdd⟩:=id hm
 unfold pyNext
 refine wpAny_bind (wpAny_attempt (wpAny_callSpecial?_slot (name:=‹"__next__"›) hit.typeIs F.slot_dict_keyiterator_next
   (wpAny_call_entry F.slot_dict_keyiterator_next hit.typeIs F.entry_dict_keyiterator_next ?_ (F.args_dict_keyiterator_next_1 _))))
 refine wpAny_bind (wpAny_pure (wpAny_bind (wpAny_bind ?_)))
 first | refine wpAny_bind (wpAny_typeNameOfWhole_keyiter hit.typeIs (wpAny_pure ?_)) | refine wpAny_bind (wpAny_typeNameOf_keyiter hit.typeIs (wpAny_pure ?_))
 refine wpAny_bind (wpAny_fieldsOf ho hd ?_)
 simp only [show Builtin.Dict_items.ownsTuple "dict_keyiterator" = false by decide,Bool.false_eq_true,if_false]
 show wpAny _ _ (if (Value.ref d == Value.none)=true then _ else _) _ _ s
 rw [if_neg (show ¬ ((Value.ref d == Value.none)=true) from Bool.false_ne_true)]
 refine wpAny_bind (wpAny_pure (wpAny_bind (wpAny_dictEntries hod hdd ?_)))
 rw [if_neg (by simp)]
 refine wpAny_bind (wpAny_pure (wpAny_bind (wpAny_dictEpoch hod hdd ?_)))
 rw [if_neg (by simp)]
 refine wpAny_pure ?_
 simp only [show ¬ ((i:Int)<0) from by omega,if_false,Int.toNat_natCast,Array.getElem?_eq_getElem hi]
 refine wpAny_bind ?_
 first | refine wpAny_bind (wpAny_typeNameOfWhole_keyiter hit.typeIs (wpAny_pure ?_)) | refine wpAny_bind (wpAny_typeNameOf_keyiter hit.typeIs (wpAny_pure ?_))
 refine wpAny_bind (wpAny_isOneOf_keyiter hit.typeIs ?_)
 show wpAny _ _ (setField (.ref it) 1 (rawInt ((i:Int)+1)) >>= _) _ _ s
 refine wpAny_bind (wpAny_setField ho hd (by simp) ?_)
 have hit':(s.heap.update it (Obj.mapFields (·.setIfInBounds 1 (rawInt ((i:Int)+1))))).IsKeyIter it d (i+1) es.size ep :=
   ⟨_,Heap.get?_update_self _ ho (Obj.isFreed_of_fields (Obj.data_mapFields hd _)),(Obj.cls_mapFields ..).trans hc,by rw [Obj.data_mapFields hd];simp [rawInt]⟩
 refine wpAny_bind (wpAny_holding (wpAny_bind (wpAny_isOneOf_keyiter (s:={ s with heap:=s.heap.update it (Obj.mapFields (·.setIfInBounds 1 (rawInt ((i:Int)+1)))) }) hit'.typeIs ?_)))
 show wpAny _ _ (pure es[i].key) _ _ _
 exact wpAny_pure (wpAny_pure ⟨_,rfl,wpAny_pure (q _ hit' (Heap.SameBut.update ..))⟩)
theorem abZ {Q:Option Value→Shared→Prop} (hh:A.handled=none) (hit:s.heap.IsKeyIter it d es.size es.size ep) (hm:Er s.heap d es ep)
   (q:∀ h',Heap.ExtBut it s.heap h'→Q none { s with heap:=h' }):wpAny (model prog w) A (pyNext (.ref it)) Q E s:=by
 obtain⟨o,ho,hc,hd⟩:=id hit
 obtain⟨od,hod,hcd,hdd⟩:=id hm
 unfold pyNext
 refine wpAny_bind (wpAny_attempt (wpAny_callSpecial?_slot (name:=‹"__next__"›) hit.typeIs F.slot_dict_keyiterator_next
   (wpAny_call_entry F.slot_dict_keyiterator_next hit.typeIs F.entry_dict_keyiterator_next ?_ (F.args_dict_keyiterator_next_1 _))))
 refine wpAny_bind (wpAny_pure (wpAny_bind (wpAny_bind ?_)))
 first | refine wpAny_bind (wpAny_typeNameOfWhole_keyiter hit.typeIs (wpAny_pure ?_)) | refine wpAny_bind (wpAny_typeNameOf_keyiter hit.typeIs (wpAny_pure ?_))
 refine wpAny_bind (wpAny_fieldsOf ho hd ?_)
 simp only [show Builtin.Dict_items.ownsTuple "dict_keyiterator" = false by decide,Bool.false_eq_true,if_false]
 show wpAny _ _ (if (Value.ref d == Value.none)=true then _ else _) _ _ s
 rw [if_neg (show ¬ ((Value.ref d == Value.none)=true) from Bool.false_ne_true)]
 refine wpAny_bind (wpAny_pure (wpAny_bind (wpAny_dictEntries hod hdd ?_)))
 rw [if_neg (by simp)]
 refine wpAny_bind (wpAny_pure (wpAny_bind (wpAny_dictEpoch hod hdd ?_)))
 rw [if_neg (by simp)]
 refine wpAny_pure ?_
 simp only [show ¬ ((es.size:Int)<0) from by omega,if_false,Int.toNat_natCast,Array.getElem?_eq_none (Nat.le_refl es.size)]
 refine wpAny_bind ?_
 first | refine wpAny_bind (wpAny_typeNameOfWhole_keyiter hit.typeIs (wpAny_pure ?_)) | refine wpAny_bind (wpAny_typeNameOf_keyiter hit.typeIs (wpAny_pure ?_))
 show wpAny _ _ (setField (.ref it) 0 .none >>= _) _ _ s
 refine wpAny_bind (wpAny_setField ho hd (by simp) ?_)
 show wpAny _ _ (newExc (.type "StopIteration") [] >>= _) _ _ _
 refine wpAny_bind ?_
 simp only [newExc,newTuple]
 refine wpAny_bind (wpAny_newObj_type ?_ (by size_fits))
 refine wpAny_bind (m:=firstArgMember _ _) (wpAny_of_eq (a:=Value.none) (by first | rfl | (simp only [firstArgMember];rfl)) ?_)
 refine wpAny_newObj_type ?_ (by size_fits)
 simp only [raiseNew]
 refine wpAny_bind (wpAny_handled ?_)
 rw [show A.in1.handled=none from hh]
 refine wpAny_bind (wpAny_pure (wpAny_throw ?_))
 refine wpAny_bind (wpAny_isInstance (T:="StopIteration") (b:=true) ⟨_,Heap.get?_push_size _ rfl,rfl⟩ isSubtype_stop ?_)
 exact wpAny_pure (q _ (((Heap.SameBut.update ..).extBut.push _).push _))
end
section
variable {X:Cx}{pos:Pos}
end
end L2
namespace L2
open PySem PySem.Spec PySem.Calls PySem.W PyProof.Rows
inductive S9 (n:Nat) {α:Type} (R:α→Prop):KasT α→Prop
 | ret {a:α}:R a→S9 n R (.ret a)
 | ask {i j:Nat}{k:Bool→KasT α}:i<n→j<n→(∀ b,S9 n R (k b))→S9 n R (.ask i j k)
theorem S9.bind {n:Nat}{α β:Type}{R:α→Prop}{S:β→Prop}{f:α→KasT β}{t:KasT α} (h:S9 n R t) (k:∀ a,R a→S9 n S (f a)):S9 n S (t.bind f):=by
 induction h with
 | ret r=>exact k _ r
 | ask hi hj _ ih=>exact .ask hi hj ih
def PlG (n:Nat) (p:Array Nat):Prop:=p.size=n∧∀ x∈p,x<n
theorem PlG.at {n:Nat}{p:Array Nat} (h:PlG n p) (hn:0<n) (k:Nat):p.getD k 0<n:=by
 rw [Array.getD_eq_getD_getElem?]
 by_cases hk:k<p.size
 · rw [Array.getElem?_eq_getElem hk];exact h.2 _ (Array.getElem_mem hk)
 · rw [Array.getElem?_eq_none (by omega)];exact hn
end L2
namespace L2
open PySem PySem.Spec PySem.Calls PySem.W PyProof.Rows
section
variable {prog:Program}{w:World}{A:Around}{E:Value→Shared→Prop}{s:Shared}
def aet (h:Heap) (v:Value):Prop:=∃ x o q t tq tt m,v=.ref x∧h.get? x=some o∧o.cls=.type "tuple"∧o.data=.seq #[.str q tq,.str t tt] m
theorem aet.keep {h h':Heap}{v:Value} (x:aet h v) (k:∀ b o,h.get? b=some o→o.cls=.type "tuple"→h'.get? b=some o):aet h' v:=let ⟨a,o,q,t,tq,tt,m,e,ho,hc,r⟩:=x; ⟨a,o,q,t,tq,tt,m,e,k _ _ ho hc,hc,r⟩
end
end L2
namespace L2
open PySem PySem.Spec PyProof.Rows PySem.Calls
section
variable {X:Cx}{scope:Scope}{x y z:Str}{M:List Str}{elt iter:Expr}{ifs:List Expr}{pos p1 p2 p3 p4:Pos}{kk:Nat}{te:TE}{wi:TI}{tc:TT}
structure aqF (K:PySem.W.Frag) (J:It) (tc:TT) (te:TE) (σ:St) (H1:Hp) (Q:VK):Prop where
 ex:∃ (n:Nat) (W:Nat→List V→Hp→Prop),n≤sizeLine∧W 0 [] H1∧∀ i ys H,i≤n→ys.length≤i→W i ys H →
   (J.stop i H∧∀ p,H p=none→Q (.ref p) (upd H p (.lst ys)))∨(J.go i H∧i<n∧∀ z H',J.V2 i H z H'→∃ (p:Addr) (a b d:V),z=.ref p∧jJ K H' p [a,b,d]∧tc (some a::some b::σ) H' fun c H3=>if c=true then te (some a::some b::σ) H3 fun z H4=>W (i+1) (ys++[z]) H4 else W (i+1) ys H3)
end
end L2
namespace L2
open PySem PySem.Spec PyProof.Rows PySem.Calls PySem.W PySem.Builtin PySem.Builtin.ObjectAttr PySem.Builtin.Getset_descriptor
structure Hx (K:PySem.W.Frag) (D:Addr) (f:Str):Prop where
 ga:findIn K (.ref D) "__getattribute__" = some (some (.builtin "BaseException.__getattribute__"))
 gk:findIn K (.ref D) "__getattr__" = some none
 hd:hasDictIn K D=true
 at_:findIn K (.ref D) f=some none
 mb:mroIn K D (.type "BaseException")=some true
section
variable {prog:Program}{w:World}{A:Around}{E:Value→Shared→Prop}{s:Shared}{K:PySem.W.Frag}{x D:Addr}{ox:Obj}{od:Obj}{name:Str}{v:Value}
theorem Qz {tk:Tok}{R:Result→Shared→Prop} (c:Hx K D name) (X:K.In s.heap) (J:PySem.W.InstAt s.heap x ox D (some od)) (hl:lookIn name od=some (some v)) (q:R (.ok (.ret v)) s) :
   codeAny (model prog w) A (.call (.builtin "BaseException.__getattribute__") ⟨[.ref x,.str name tk],[]⟩) R s:=by
 obtain⟨hh,g,d,t,os⟩:=s
 have t0:=J.type (M:=model prog w)
 have lb:=looks_mroIn (M:=model prog w) X c.mb
 have f0:=looks_find (M:=model prog w) X J (findObj_own c.hd c.at_ rfl hl)
 have hk:builtinKind "BaseException.__getattribute__" = some .slot:=by symm
 have hsplit:splitId "BaseException.__getattribute__" = some ("BaseException","__getattribute__"):=by symm
 have ha:=F.args_bexc_ga (.ref x) (.str name tk)
 refine codeAny_call_builtin F.excAttr_ValueError.ga.plain F.entry_bexc_ga ?_
 simp only [checkBuiltinCall,hk,hsplit]
 unfold isInstance
 refine wpAny_bind ?_
 repeat lk
 exact q
theorem Wm {expr:Bool}{Q:Value→Shared→Prop} (c:Hx K D name) (X:K.In s.heap) (J:PySem.W.InstAt s.heap x ox D (some od)) (hl:lookIn name od=some (some v)) (hv:handedIn v=true) (q:Q v { s with toks:=s.toks+1 }) :
   wpAny (model prog w) A (getAttr (.ref x) name expr) Q E s:=by
 obtain⟨hh,g,d,t,os⟩:=s
 have t0:=J.type (M:=model prog w)
 have t1:=looks_findIn (M:=model prog w) X c.ga
 have f1:=looks_findIn (M:=model prog w) X c.gk
 have f3:=F.excAttr_ValueError.ga.bind (.ref x)
 unfold getAttr getAttrBy
 refine wpAny_bind (wpAny_mkText (wpAny_holding (wpAny_bind (t0.at (wpAny_bind (t1.at ?_))))))
 show wpAny _ _ (getAttrByItsOwn _ _ _ _ _ _) _ _ _
 unfold getAttrByItsOwn hookBefore
 refine wpAny_bind (f1.at (wpAny_bind (wpAny_attempt (wpAny_holding ?_))))
 unfold callGetattribute
 rw [show (expr && onTheHeap (Value.builtin "BaseException.__getattribute__"))=false from Bool.and_false _,if_neg (by decide)]
 show wpAny _ _ (boundAndCalled _ _ _) _ _ _
 unfold boundAndCalled
 rw [f3]
 refine wpAny_bind (wpAny_pure (wpAny_call ?_))
 refine Qz c (s:=⟨hh,g,d,t+1,os⟩) X J hl ?_
 show wpAny _ _ (handedOut v) _ _ _
 rw [handedOut_of hv];exact wpAny_pure q
def ju:List Value→Bool
 | .ref _::r=>ju r
 | l=>l == fO
theorem Hy (self:Value):∀ {l:List Value},ju l=true→refuseLoop self "__setattr__" l=pure ()
 | .ref c::r,e=>by rw [refuseLoop_ref];exact Hy self (l:=r) e
 | [],e=>by cases e
 | .type n::r,e=>by
   have q:(Value.type n::r)=fO:=by simpa [ju] using e
   rw [q];exact PySem.F.store_ValueError.passes self
 | .none::r,e=>by have q:=e;simp [ju,fO] at q
 | .ellipsis::r,e=>by have q:=e;simp [ju,fO] at q
 | .notImplemented::r,e=>by have q:=e;simp [ju,fO] at q
 | .bytes _ _::r,e=>by have q:=e;simp [ju,fO] at q
 | .bool _::r,e=>by have q:=e;simp [ju,fO] at q
 | .int _ _::r,e=>by have q:=e;simp [ju,fO] at q
 | .str _ _::r,e=>by have q:=e;simp [ju,fO] at q
 | .float _ _::r,e=>by have q:=e;simp [ju,fO] at q
 | .builtin _::r,e=>by have q:=e;simp [ju,fO] at q
structure N8 (K:PySem.W.Frag) (D:Addr) (f:Str):Prop where
 sa:findIn K (.ref D) "__setattr__" = some (some (.builtin "object.__setattr__"))
 hd:hasDictIn K D=true
 at_:findIn K (.ref D) f=some none
 mr:(clsIn K D).any (fun cd=>ju cd.mro)=true
 mo:mroIn K D (.type "object")=some true
theorem Wn {Q:Unit→Shared→Prop} (c:N8 K D name) (X:K.In s.heap) (hx:s.heap.get? x=some ox) (hc:ox.cls=.ref D) (hd:ox.dict=none) (hf:∃ vs,ox.data=.fields vs)
   (q:∀ h' dx mA,s.heap.objs.size≤dx→h'.get? x=some { ox with dict:=some dx }→h'.Ns1 dx mA→mA=(fun y=>if y=name then some v else none)→(∀ b o,b≠x→s.heap.get? b=some o→h'.get? b=some o)→Q () { s with heap:=h',toks:=s.toks+2 }) :
   wpAny (model prog w) A (setAttr (.ref x) name v) Q E s:=by
 have J:PySem.W.InstAt s.heap x ox D none:=⟨hx,hc,(by obtain⟨vs,z⟩:=hf;unfold notCls;rw [z]),(by rw [hd];exact True.intro)⟩
 refine set_plain X J c.sa ?_
 have SF:=PySem.F.store_object
 obtain⟨cd,hcd,ho⟩:=any_some c.mr
 obtain⟨cd',hcd',hdd⟩:=any_some c.hd
 obtain rfl:cd=cd':=Option.some.inj (hcd.symm.trans hcd')
 have sub:Looks (model prog w) s.heap (isInstance (.ref x) (.type "object")) true:=J.type.andThen (looks_mroIn X c.mo)
 refine codeAny_call_builtin SF.slot.plain SF.entry (@check_slot (model prog w) _ _ { s with toks:=s.toks+1 } "object.__setattr__" "object" "__setattr__" (.ref x) [.str name s.toks,v] [] _ SF.kind SF.split sub (SF.args (.ref x) (.str name s.toks) v) ?_)
 have hm:Looks (model prog w) s.heap (mroOf (.ref D)) cd.mro:=(looks_clsIn X hcd).andThen .now
 obtain⟨hh,g,d,t,os⟩:=s
 dsimp only at X hx J hm sub
 have T0:=J.type (M:=model prog w)
 rw [osa_eq,refuse_eq]
 refine wpAny_bind (wpAny_bind (T0.at (wpAny_bind (hm.at ?_))))
 rw [Hy _ ho]
 refine wpAny_pure (wpAny_bind (T0.at (wpAny_bind ((looks_findIn X c.at_).at (wpAny_bind (wpAny_pure ?_))))))
 show wpAny _ _ (storeInOwnDict _ _ _ _ _ _) _ _ _
 obtain⟨oc,odi,oda,osl⟩:=ox
 dsimp only at hc hd hf
 subst hc hd
 obtain⟨vs,rfl⟩:=hf
 refine wpAny_bind (wpAny_pure (wpAny_bind (wpAny_bind (wpAny_loadPart hx (wpAny_bind ((looks_clsIn X hcd).at ?_))))))
 rw [hdd]
 have hx1:=Heap.get?_push_of_some (h:=hh) { cls:=.type "dict",data:=.dict #[] } hx
 have nx:x≠hh.objs.size:=Nat.ne_of_lt (Heap.lt_size hx)
 refine wpAny_bind (wpAny_alloc' ?_)
 refine wpAny_bind (wpAny_update' hx1 ?_)
 refine wpAny_pure ?_
 show wpAny _ _ (storeInDict hh.objs.size (.str name _) name v) _ _ _
 unfold storeInDict newKeyGuard
 have gd:((hh.push { cls:=.type "dict",data:=.dict #[] }).update x fun o=>{ cls:=o.cls,dict:=some hh.objs.size,data:=o.data,slots:=o.slots }).get? hh.objs.size
     = some { cls:=.type "dict",data:=.dict #[] } :=
   (Heap.get?_update_ne _ _ _ _ nx.symm).trans (Heap.get?_push_at rfl rfl)
 have nd:((hh.push { cls:=.type "dict",data:=.dict #[] }).update x fun o=>{ cls:=o.cls,dict:=some hh.objs.size,data:=o.data,slots:=o.slots }).Ns hh.objs.size (fun _=>none) :=
   ⟨_,#[],_,gd,rfl,fun e he=>absurd he (by simp),fun _=>rfl⟩
 refine wpAny_bind (wpAny_pure (wpAny_bind (wpAny_nsSet1 (Heap.Ns1.of_empty nd) fun h' hn' hs=>?_)))
 obtain⟨oD,esD,epD,hoD,hdD,hcD⟩:=hn'.count (Within.cons name v Within.nil)
 refine wpAny_bind (wpAny_lookBehind hoD (by rw [hdD];exact pastItsLine_dict (Nat.le_trans hcD (by rw [List.length_cons,List.length_nil,sizeLine_eq];omega))) ?_)
 refine wpAny_pure (q h' hh.objs.size _ (Nat.le_refl _) ?_ hn' rfl fun b o n e=>?_)
 · exact (hs.2 x nx).trans (Heap.get?_update_self _ hx1 rfl)
 · exact (hs.2 b (Nat.ne_of_lt (Heap.lt_size e))).trans ((Heap.get?_update_ne _ _ _ _ n).trans (Heap.get?_push_of_some _ e))
end
end L2
namespace L2
open PySem PySem.Spec PyProof.Rows PySem.Calls PySem.W PySem.Builtin PySem.Builtin.ObjectAttr PySem.Builtin.Getset_descriptor
def uB (K:PySem.W.Frag) (C:Addr):Bool:=match K.lookup C with
 | some ⟨.type "type",_,.cls cd,sl⟩=>(match cd.mro,sl.toList with
   | .ref C'::bm,[_,_,_,_,some (.builtin n),_]=>C' == C && n == "ValueError.__new__" && !cd.hasDel && tailIn K fO bm
   | _,_=>false)
 | _=>false
theorem Hz {K:PySem.W.Frag}{h:Heap}{C:Addr} (X:K.In h) (q:uB K C=true) :
   ∃ bm N nm qn bs hdct sn sub ab col dd k0 k1 k2 k3 k5,h.get? C=some (excClassObj nm qn C N bs bm hdct sn sub ab col dd k0 k1 k2 k3 k5 "ValueError.__new__")∧OwnTail h fO bm:=by
 unfold uB at q
 split at q
 · rename_i dd cl sl ho
   split at q
   · rename_i C' bm k0 k1 k2 k3 n k5 hm hs
     simp only [Bool.and_eq_true,Bool.not_eq_true',beq_iff_eq] at q
     obtain⟨⟨⟨e1,e2⟩,e3⟩,e4⟩:=q
     subst e1 e2
     obtain⟨c1,c2,c3,c4,c5,c6,c7,c8,c9,c10,c11⟩:=cl
     dsimp only at hm e3;subst hm e3
     have es:sl=#[k0,k1,k2,k3,some (.builtin "ValueError.__new__"),k5]:=by
       cases sl with | mk l=>(simp only at hs;rw [hs])
     subst es
     exact⟨bm,c4,c1,c5,c2,c6,c7,c8,c9,c10,dd,k0,k1,k2,k3,k5,X _ _ ho,tail_of_in X e4⟩
   · cases q
 · cases q
def Aa (C:Addr) (dct:Option Addr) (t:Addr):Obj:={ cls:=.ref C,dict:=dct,data:=.fields #[.ref t,.none,.none,.none,.bool false,.none] }
section
variable {prog:Program}{w:World}{A:Around}{E:Value→Shared→Prop}{s:Shared}{K:PySem.W.Frag}{C fI:Addr}
theorem QB {rest:List Value}{Q:Value→Shared→Prop} (X:K.In s.heap) (hc:uB K C=true) (hi:findIn K (.ref C) "__init__" = some (some (.ref fI))) (hf:isFn K (.ref fI)=true)
   (hrest:rest.length≤sizeLine)
   (hq:∀ h' e t,s.heap.objs.size≤e→h'.get? e=some (Aa C none t)→(∀ b o,s.heap.get? b=some o→h'.get? b=some o)→h'.objs.size=e+1 →
     wpAny (model prog w) (A.under (.builtin "type.__call__" ⟨.ref C::rest,[]⟩)) (call (.ref fI) (.ref e::rest)) (fun r s'=>r=.none∧Q (.ref e) s') E { s with heap:=h' }) :
   wpAny (model prog w) A (call (.ref C) rest) Q E s:=by
 obtain⟨bm,N,nm,qn,bs,hdct,sn,sub,ab,col,dd,k0,k1,k2,k3,k5,hC,T⟩:=Hz X hc
 obtain⟨h,g,d,t,os⟩:=s
 dsimp only at X hC T hq
 have FB:=PySem.F.excBase_ValueError
 have f1:=tc_lookup
 have f2:=tc_bind (.ref C)
 have hT:(⟨h,g,d,t,os⟩:Shared).TypeIs (.ref C) "type":=⟨_,hC,rfl⟩
 refine wpAny_call (codeAny_of_tree ?_)
 show wpAny _ _ (callAny (.ref C) _) _ _ _
 repeat (any_goals (first | assumption | with_reducible refine wpAny_loadPart_at hC ?_ | wp_step))
 refine⟨rfl,?_⟩
 refine codeAny_call_builtin_at (Code.quiet_builtin _ (by symm)) entry_typeCall (wpAny_check_type_call_sub hC ?_)
 repeat (first | with_reducible refine wpAny_loadPart_at hC ?_ | with_reducible refine wpAny_madeBy_exc hC ?_ | wp_step)
 refine codeAny_call_builtin_code (Code.quiet_builtin _ FB.quiet) (wpAny_check_new_subT FB T hC ?_)
 refine codeAny_exc_new_subT FB T hC ?_ hrest
 show wpAny _ _ _ _ _ ⟨(h.push { cls:=.type "tuple",data:=.seq rest.toArray }).push { cls:=.ref C,data:=.fields #[.ref h.objs.size,.none,.none,.none,.bool false,.none] },g,d,t,os⟩
 generalize hh':(h.push { cls:=.type "tuple",data:=.seq rest.toArray }).push { cls:=.ref C,data:=.fields #[.ref h.objs.size,.none,.none,.none,.bool false,.none] } = h'
 have kp:∀ b o,h.get? b=some o→h'.get? b=some o:=fun b o e=>by rw [← hh'];exact Heap.get?_push_of_some _ (Heap.get?_push_of_some _ e)
 have hC1:=kp _ _ hC
 have X1:K.In h':=fun b o e=>kp b o (X b o e)
 have hget:h'.get? (h.objs.size+1)=some (Aa C none h.objs.size):=by rw [← hh'];unfold Aa;heap_get
 have hcC:(Value.ref C::bm).contains (.ref C)=true:=by simp
 have hsz:h'.objs.size=h.objs.size+1+1:=by rw [← hh',Heap.size_push,Heap.size_push]
 have L:=looks_findIn (M:=model prog w) X1 hi
 have cl:(Aa C none h.objs.size).cls=.ref C:=rfl
 unfold isInstance
 repeat (first | (with_reducible refine wpAny_loadPart_at hget ?_;rw [cl]) | (with_reducible refine wpAny_isSubtype_exc hC1 ?_;rw [hcC]) | wp_step)
 show wpAny _ _ (typeLookup (.ref C) _) _ _ _
 refine L.at ?_
 refine wpAny_holding (wpAny_bind ?_)
 refine (bind_fn X1 (.ref (h.objs.size+1)) (beq_iff_eq.mp hf)).at ?_
 refine wpAny_bind (wpAny_mono (hq h' (h.objs.size+1) h.objs.size (Nat.le_succ _) hget kp hsz) (fun r s' hr=>?_) fun _ _ x=>x)
 obtain⟨rfl,hQ⟩:=hr
 wp_walk
 exact hQ
end
end L2
namespace L2
open PySem PySem.Spec PyProof.Rows PySem.Calls PySem.W PySem.Builtin PySem.Builtin.ObjectAttr PySem.Builtin.Getset_descriptor
def m8 (a C:Addr) (dct:Option Addr):HO:=.ext fun h=>∃ t,h.get? a=some (Aa C dct t)
theorem GK {P:Program}{w:World}{H:Hp}{h:Heap}{a C t:Addr}{dct:Option Addr} (e:h.get? a=some (Aa C dct t)):bw P w H h a (m8 a C dct) :=
 ⟨⟨t,e⟩,⟨_,e⟩,fun _ _ ⟨u,z⟩ k=>⟨u,k _ z⟩⟩
theorem Ab {H:Hp}{a:Addr}{o:HO} (h:H a=some o):upd H a o=H:=by
 funext b;unfold upd;split
 · rename_i e;rw [e,h]
 · rfl
def hid (H:Hp) (a:Addr):Hp:=fun b=>if b=a then none else H b
structure ade (K:PySem.W.Frag) (C:Addr):Prop where
 rd:PySem.W.readsIn K C (.type "type")=true
 at_:PySem.W.findCls K (.ref C) (.type "type") "__init__" = some (.val (.builtin "ValueError.__init__"))
 sp:PySem.W.specialIn K (.ref C) "__getattribute__" = some (some (.builtin "type.__getattribute__"))
section
variable {X:Cx}{pos apos np:Pos}{e:Expr}{es:List Expr}{t:TA}{x:Str}{C0:Addr}
def aeu (K:PySem.W.Frag) (t:TA):TE:=fun σ H Q=>t σ H fun vs H1=>∃ a C m,vs=[.ref a,m]∧H1 a=some (m8 a C none)∧uB K C=true∧Q .non H1
theorem QC {pl:Sem Bool} (c:ade X.K C0) (hg:Gl X x) (hmg:X.mg x=some (.ref C0)) (ha:PA X (e::es) t) (hd:(x == ("__debug__":Str))=false:=by decide)
   (hst:starEach (e::es) X.env=(false,eval e X.env)::starEach es X.env:=by rfl) (hpl:(backTo pos (starEach es X.env)).any (·.1)=false:=by rfl)
   (ht:eval (.Call (.Attribute (.Name x np) "__init__" apos) (e::es) [] pos) X.env=(do
     let ov ← eval (.Name x np) X.env
     standAt apos.atName
     let (f,first) ← holding [ov] (getMethod ov "__init__" pl)
     callWith pos f first (backTo pos (starEach (e::es) X.env)) (backToKw pos (keywordEach [] X.env))):=by rfl) :
   PE X (.Call (.Attribute (.Name x np) "__init__" apos) (e::es) [] pos) (aeu X.K t):=by
 intro pins s σ H Q I h
 refine PySem.W.methodCall_KW (pl:=pl) (xZ I hg hmg ?_ hd) ht
 refine PySem.W.method_cls I.ug c.sp (PySem.W.cls_value (s:=s) I.ug c.rd c.at_ rfl ?_)
 refine PyProof.Rows.callWith_builtin1 (fM (ha pos pins _ σ H _ (I.tok _) h) fun us s2 ⟨vs,H2,I2,r,a,C,m,ev,ea,hc,q⟩=>?_) hst hpl
 subst ev
 obtain⟨u1,u2,rfl,r1,r2⟩:=vals2 r
 cases (show u1=Value.ref a from r1)
 obtain⟨⟨t0,e0⟩,_⟩:=(show bw X.prog X.w H2 s2.heap a (m8 a C none) from I2.hok a _ ea)
 obtain⟨bm,N,nm,qn,bs,hdct,sn,sub,ab,col,dd,k0,k1,k2,k3,k5,hC,T⟩:=Hz I2.ug hc
 have FB:=PySem.F.excBase_ValueError
 obtain⟨hh,g,d,tk,os⟩:=s2
 dsimp only at e0 hC T
 refine wpAny_call (codeAny_call_builtin FB.init.plain FB.initEntry (wpAny_check_init_subT FB T hC e0 rfl ?_))
 have e1:=Heap.get?_push_of_some { cls:=.type "tuple",data:=.seq [u2].toArray } e0
 unfold Builtin.«BaseException.__init__» Builtin.BaseException.bexcPut
 wp_walk
 have na:a≠hh.objs.size:=Nat.ne_of_lt (Heap.lt_size e0)
 refine⟨.non,H2,?_,rfl,q⟩
 have W:=I2.write (x:=a) (e:=a) (o:=m8 a C none) (t':=tk) (h':=(hh.push { cls:=.type "tuple",data:=.seq [u2].toArray }).update a (Obj.mapFields (·.setIfInBounds 0 (Value.ref hh.objs.size)))) (by rw [ea];exact True.intro) (.inl rfl)
   (fun b u n z=>(Heap.get?_update_other _ _ (Ne.symm n)).trans (Heap.get?_push_of_some _ z)) ⟨_,Heap.get?_update_self _ e1 rfl⟩ (GK (t:=hh.objs.size) (Heap.get?_update_self _ e1 rfl))
 rw [Ab ea] at W
 exact W
end
end L2
namespace L2
open PySem PySem.Spec PyProof.Rows PySem.Calls PySem.W PySem.Builtin
section
variable {X:Cx}{pins:List (Addr × Obj)}{σ:St}{H:Hp}{s:Shared}{o value:Expr}{f:Str}{pos pos':Pos}{ta tv:TE}
def aiN (K:PySem.W.Frag) (ta tv:TE) (f:Str):TS:=fun D σ H=>tv σ H fun y H1=>ta σ H1 fun x H2=>∃ a C,x=.ref a∧H2 a=some (m8 a C none)∧N8 K C f ∧
 ∀ dx,H2 dx=none→dx≠a→D.nx σ (upd (upd H2 a (m8 a C (some dx))) dx (.xd [(f,y)]))
theorem Vb (ha:PE X o ta) (hv:PE X value tv) (hex:X.ex=[]) (hs:swapsWith value (some (.Attribute o f pos')) pos.line X.env=pure false):PS X (.Assign [.Attribute o f pos'] value pos) (aiN X.K ta tv f):=by
 intro pins s σ H D I h
 refine plainObj_wpAny_Assign_Attribute (fM (hv pins s σ H _ I h) fun u s1 ⟨y,H1,I1,ry,q⟩=>fM (ha pins s1 σ H1 _ I1 q) fun ov s2 ⟨x,H2,I2,rx,a,C,ex,ea,c,q2⟩=>?_) hs
 subst ex
 obtain rfl:ov=Value.ref a:=rx
 obtain⟨⟨t0,e0⟩,_⟩:=(show bw X.prog X.w H2 s2.heap a (m8 a C none) from I2.hok a _ ea)
 refine Wn c I2.ug e0 rfl rfl ⟨_,rfl⟩ fun h' dx mA hp ex ns em k=>?_
 have fx:H2 dx=none:=I2.hok.fresh hp
 have ne:dx≠a:=Ne.symm (zI ea fx)
 refine⟨σ,_,?_,q2 dx fx ne⟩
 have W:=I2.write (x:=a) (e:=a) (o:=m8 a C (some dx)) (t':=s2.toks+2) (h':=h') (by rw [ea];exact True.intro) (.inl rfl) (fun b u n z=>k b u n z) ⟨_,ex⟩ (GK (t:=t0) ex)
 have big:∀ b o,s2.heap.get? b=some o→b≠dx:=fun b o z=>Nat.ne_of_lt (Nat.lt_of_lt_of_le (Heap.lt_size z) hp)
 refine W.YD (by rw [zL ne];exact fx) (fun b ob z=>?_) ?_ (fun y c z=>?_) (fun p hp=>?_) ⟨mA,ns,fun g=>?_⟩
 · obtain⟨o',e'⟩:=I2.base.there b ob z (by rw [hex];exact fun z=>nomatch z)
   exact big b o' e'
 · obtain⟨m,⟨o,_,_,e,_⟩,_⟩:=I2.loc
   exact big _ o e
 · obtain⟨v,o,e',_⟩:=I2.cell y c z
   exact big c o e'
 · exact big p.1 p.2 (I2.pin p hp).1
 · rw [em]
   show qF (List.lookup g [(f,y)]) (if g=f then some u else none)
   by_cases z:g=f
   · subst z;rw [if_pos rfl,List.lookup_cons,beq_self_eq_true];exact ry
   · rw [if_neg z,List.lookup_cons,beq_false_of_ne z];exact True.intro
def aiO (K:PySem.W.Frag) (ta:TE) (f:Str):TE:=fun σ H Q=>ta σ H fun x H1=>∃ a D dx fs v,x=.ref a∧H1 a=some (J6 a D dx)∧H1 dx=some (.xd fs)∧Hx K D f∧fs.lookup f=some v∧Q v H1
theorem Ac {e:Expr} (he:PE X e ta) (hb:attributeBase e f X.env (eval e X.env)=eval e X.env):PE X (.Attribute e f pos) (aiO X.K ta f):=by
 intro pins s σ H Q I h
 refine UG hb (fM (he pins s σ H _ I h) fun u s1 zq=>?_)
 obtain⟨x,H1,I1,rx,a,D,dx,fs,v,ex,ea,ed,c,l,q⟩:=zq
 subst ex
 obtain rfl:u=Value.ref a:=rx
 obtain⟨⟨ob,e1,e2,e3,vs,e4⟩,_⟩:=(show bw X.prog X.w H1 s1.heap a (J6 a D dx) from I1.hok a _ ea)
 obtain⟨mA,ns,r⟩:=(show bw X.prog X.w H1 s1.heap dx (.xd fs) from I1.hok dx _ ed)
 obtain⟨w',hw,vU⟩:=qF.some_of (v:=v) (o:=mA f) (by rw [← l];exact r f)
 obtain⟨od,ho,hl⟩:=Mg ns
 refine Wm c I1.ug ⟨e1,e2,(by unfold notCls;rw [e4]),(by rw [e3];exact ho)⟩ (by rw [hl,hw]) (Mh vU) ?_
 exact⟨v,H1,I1.tok _,vU,q⟩
end
section
variable {P:Program}{w:World}{K:PySem.W.Frag}{mg:Str→Option Value}{base:Heap}{N:List Str}{qual:Str}{scope:Scope}{f:Addr}{cdv:Value}{A:Around}{outer:List Env}{s:Shared}{H:Hp}{E:XK}
theorem Zi {pins:List (Addr × Obj)}{σ:St}{H1:Hp}{s1:Shared}{e C dx:Addr} (I:Inv (eF (jf P w) P w K mg base N qual scope f cdv A outer s H E) pins σ H1 s1)
   (he:H1 e=some (m8 e C (some dx))) (new:∀ b o,s.heap.get? b=some o→b≠e) (hE:E (.ref C) (some dx) (hid H1 e)):(eF (jf P w) P w K mg base N qual scope f cdv A outer s H E).xe (.ref e) s1:=by
 obtain⟨⟨t0,e0⟩,_⟩:=(show bw P w H1 s1.heap e (m8 e C (some dx)) from I.hok e _ he)
 have hst:=I.stack
 have hin:∀ env∈(eF (jf P w) P w K mg base N qual scope f cdv A outer s H E).stack,∀ b,env.frame=some b→b∈frs (eF (jf P w) P w K mg base N qual scope f cdv A outer s H E).stack:=fun env he b hb=>List.mem_filterMap.mpr ⟨env,he,hb⟩
 have ntr:e∉frs (eF (jf P w) P w K mg base N qual scope f cdv A outer s H E).stack:=fun z=>by rw [I.vB e z] at he;cases he
 generalize hB:PySem.W.hideAll s1.heap (e::frs (eF (jf P w) P w K mg base N qual scope f cdv A outer s H E).stack)=B
 have stB:B.StaysIn s1.heap:=fun b o q=>by rw [← hB] at q;exact PySem.W.of_hideAll _ q
 have Tc:∀ b o,s1.heap.get? b=some o→b≠e→b∉frs (eF (jf P w) P w K mg base N qual scope f cdv A outer s H E).stack→B.get? b=some o:=fun b o q n1 n=>by
   rw [← hB];exact PySem.W.hideAll_get _ q fun z=>(List.mem_cons.mp z).elim n1 n
 have frB:s1.heap.FunFrames B (eF (jf P w) P w K mg base N qual scope f cdv A outer s H E).stack:=by rw [← hB];exact PySem.W.funFrames_hide hst fun env he b hb=>List.mem_cons_of_mem _ (hin env he b hb)
 have Yw:∀ b o,s.heap.get? b=some o→b∉frs outer→b∉frs (eF (jf P w) P w K mg base N qual scope f cdv A outer s H E).stack:=fun b o q n z=>by
   rcases List.mem_cons.mp (I.rE b z) with z | z
   · have:b<s.heap.objs.size:=Heap.lt_size q
     have a:=I.ok.above
     rw [← z] at a
     exact absurd (Nat.lt_of_lt_of_le this a) (Nat.lt_irrefl _)
   · exact n z
 have fe:B.get? e=none:=by
   cases q:B.get? e with
   | none=>rfl
   | some o=>rw [← hB,PySem.W.hideAll_none _ (List.mem_cons_self)] at q;cases q
 show wpAny (model P w) _ (leaving (envOfC qual scope s.heap.objs.size f cdv) (.ref e)) _ _ _
 refine Dp (base:=B) (outer:=outer) I.ok.frames frB rfl e0 stB fe rfl rfl fun h2 fl up=>?_
 have nx:∀ b u,H1 b=some u→b≠e→hid H1 e b=some u:=fun b u z n=>by unfold hid;rw [if_neg n];exact z
 refine⟨e,.ref C,some dx,hid H1 e,B,rfl,fl,I.os,I.bare,fun a o q=>?_,⟨fun b o q n hb=>?_,fun b o q hb=>?_,fun b o q n hb=>?_,fun b o q n=>?_,fun b xs q=>?_,fun b o u q=>?_,fun b ps q=>?_⟩,hE⟩
 · have na:a≠e:=fun z=>by subst z;unfold hid at q;rw [if_pos rfl] at q;cases q
   have q':H1 a=some o:=by unfold hid at q;rw [if_neg na] at q;exact q
   refine (I.hok a o q').stay (fun b u hb z=>Tc b u z (fun y=>?_) fun m=>?_) (fun b z=>nx b _ z fun y=>?_) (fun b xs z=>nx b _ z fun y=>?_)
   · rcases hb with r | r
     · exact na (r.symm.trans y)
     · rw [y,he] at r;cases r
   · have z:=I.vB b m
     rcases hb with r | r
     · rw [r,q'] at z;cases z
     · rw [r] at z;cases z
   · rw [y,he] at z;cases z
   · rw [y,he] at z;cases z
 · exact Tc b o (I.base.keep b o q n hb (fun z=>nomatch z)) (new b o q) (Yw b o q hb)
 · obtain⟨o',q'⟩:=I.base.there b o q (fun z=>nomatch z)
   exact⟨o',Tc b o' q' (new b o q) (Yw b o q hb)⟩
 · obtain⟨sl,q'⟩:=I.base.slot b o q n hb (fun z=>nomatch z)
   obtain⟨_,o2,ho2,hd2⟩:=I.wK.mem hb
   rw [q'] at ho2;cases ho2
   obtain⟨sl',z⟩:=up b _ q' hd2
   exact⟨sl',z⟩
 · have z:=I.base.free b o q n (fun z=>nomatch z)
   unfold hid;split
   · rfl
   · exact z
 · exact nx b _ (I.base.tups b xs q) fun y=>by have z:=I.base.tups b xs q;rw [y,he] at z;cases z
 · exact nx b _ (I.base.j4 b o u q) fun y=>by have z:=I.base.j4 b o u q;rw [y,he] at z;cases z
 · obtain⟨m1,e1⟩:=I.base.mZ b ps q
   exact⟨m1,nx b _ e1 fun y=>by rw [y,he] at e1;cases e1⟩
end
end L2
namespace L2
open PySem PySem.Spec PyProof.Rows PySem.Calls PySem.W PySem.Builtin
theorem Vc {X:Cx}{o:List Env}{H:Hp}{s s':Shared}{e:Value} (h:jf X.prog X.w o H s E0 e s'):False:=by
 obtain⟨_,_,_,_,_,_,_,_,_,_,_,z⟩:=h
 exact z
theorem Du {K:PySem.W.Frag}{M:Model}{A:Around}{E:Value→Shared→Prop}{env:Env}{s:Shared}{x:Sem Value}{Q:Flow→Shared→Prop}{C:Addr} (hh:A.handled=none) (hc:uB K C=true)
   (h:wpAny M A x (fun v s₁=>∃ e t dct,v=.ref e∧K.In s₁.heap∧s₁.heap.get? e=some (Aa C dct t)∧E (.ref e) s₁) E s):wpAny M A (raiseStmt env (some x) none) Q E s:=by
 unfold raiseStmt
 refine wpAny_bind (wpAny_mono h (fun v s₁ h₁=>?_) fun _ _ x=>x)
 obtain⟨e,t,dct,rfl,X,he,hE⟩:=h₁
 obtain⟨bm,N,nm,qn,bs,hdct,sn,sub,ab,col,dd,k0,k1,k2,k3,k5,hC,T⟩:=Hz X hc
 have hcB:(Value.ref C::bm).contains (.type "BaseException")=true:=by rw [List.contains_cons,T.hasType PySem.F.excBase_ValueError.hasBase,Bool.or_true]
 obtain⟨hp,g,d,tk,os⟩:=s₁
 have cl:(Aa C dct t).cls=.ref C:=rfl
 unfold Aa at he
 repeat (first | with_reducible refine wpAny_loadPart_at he ?_ | with_reducible refine wpAny_loadPart_at hC ?_ | (with_reducible refine wpAny_isSubtype_exc hC ?_;rw [hcB]) | wp_step)
 exact wpAny_raiseNew_none hh hE
section
variable {P:Program}{w:World}{K:PySem.W.Frag}{mg:Str→Option Value}{base:Heap}{N:List Str}{qual:Str}{scope:Scope}{f:Addr}{cdv:Value}{A:Around}{outer:List Env}{s:Shared}{H:Hp}{E:XK}
structure MkX (K:PySem.W.Frag) (C f:Addr):Prop where
 ex:uB K C=true
 init:PySem.W.findIn K (.ref C) "__init__" = some (some (.ref f))
 fn:PySem.W.isFn K (.ref f)=true
 kp:PySem.W.keepIn K (.ref C)=true
def Vd (E:XK) (C:Addr) (sp:Sp) (t:TA):TS:=fun _ σ H=>t σ H fun vs H1=>vs.length≤sizeLine∧∀ e,H1 e=none →
 sp (.ref e::vs) (upd H1 e (m8 e C none)) (fun v H2=>v=.non∧∃ dx,H2 e=some (m8 e C (some dx))∧E (.ref C) (some dx) (hid H2 e)) E0
theorem qN {x:Str}{C fI:Addr}{np cpos pos:Pos}{e₀:Expr}{rest:List Expr}{t:TA}{fd:FuncData}{ps:List Str}{sp:Sp}{k:Nat} (Mx:MkX K C fI) (F:aN P w K mg base (jf P w) k fI fd ps sp) (hr:gK (k+1) (eF (jf P w) P w K mg base N qual scope f cdv A outer s H E).A)
   (hb:Binds K fd ps []) (hm:mg x=some (.ref C)) (ha:PA (eF (jf P w) P w K mg base N qual scope f cdv A outer s H E) (e₀::rest) t) (hg:Gl (eF (jf P w) P w K mg base N qual scope f cdv A outer s H E) x)
   (he:starEach (e₀::rest) (envOfC qual scope s.heap.objs.size f cdv)=(false,eval e₀ (envOfC qual scope s.heap.objs.size f cdv))::starEach rest (envOfC qual scope s.heap.objs.size f cdv):=by rfl)
   (hpl:(backTo cpos (starEach rest (envOfC qual scope s.heap.objs.size f cdv))).any (·.1)=false:=by rfl) (hd:(x == ("__debug__":Str))=false:=by decide) :
   PS (eF (jf P w) P w K mg base N qual scope f cdv A outer s H E) (.Raise (some (.Call (.Name x np) (e₀::rest) [] cpos)) none pos) (Vd E C sp t):=by
 intro pins s1 σ H1 D I h
 have hand:(eF (jf P w) P w K mg base N qual scope f cdv A outer s H E).A.handled=none:=I.ok.hd rfl
 rw [arm_exec_Raise]
 refine wpAny_bind (wpAny_standAt ?_)
 simp only [evalOpt,Option.map]
 refine Du (K:=K) (C:=C) hand Mx.ex (wpAny_bind (wpAny_mono (wpAny_Call_ofName (xZ I hg hm ?_ hd)) (fun v s₃ h₃=>wpAny_bind (wpAny_standAt (wpAny_pure h₃))) fun _ _ x=>x))
 refine PySem.W.callWith_K (h₀:=base) I.ok.mod.kin Mx.kp (fM (ha cpos pins s1 σ H1 _ I h) fun us s2 ⟨vs,H2,I2,r,hl,q⟩=>⟨I2.ug,?_⟩) he hpl
 refine QB I2.ug Mx.ex Mx.init Mx.fn (by rw [List.nil_append,← r.length];exact hl) fun h' e t0 hp ee kp sz=>?_
 have fe:H2 e=none:=I2.hok.fresh hp
 have I3:Inv (eF (jf P w) P w K mg base N qual scope f cdv A outer s H E) pins σ (upd H2 e (m8 e C none)) { s2 with heap:=h',toks:=s2.toks }:=I2.laid kp hp (GK ee)
 have q':=q e fe
 have r2:Vals (V.ref e::vs) (Value.ref e::us):=.cons rfl r
 have hl2:(Value.ref e::us).length=ps.length:=by rw [← r2.length];exact F.len _ _ _ _ q'
 have hb':=hb { s2 with heap:=h' } (Value.ref e::us) I3.ug (by rw [List.append_nil];exact hl2)
 rw [List.append_nil] at hb'
 refine wpAny_call (codeAny_mono (F.run _ _ _ _ ⟨Value.ref e::us,[]⟩ (Value.ref e::us) _ _ E0 (hr.make C us []) (I3.env0.make C us []) hb' r2 q') fun r' s' hq'=>?_)
 cases r' with
 | error ex=>exact (Vc (X:=eF (jf P w) P w K mg base N qual scope f cdv A outer s H E) hq').elim
 | ok fl =>
   cases fl with
   | ret u =>
     obtain⟨v,H4,I4,rv,ev,dx,e4,q4⟩:=I3.after hq'
     subst ev
     cases (show u=Value.none from rv)
     obtain⟨⟨t1,e1⟩,_⟩:=(show bw P w H4 s'.heap e (m8 e C (some dx)) from I4.hok e _ e4)
     refine⟨rfl,e,t1,some dx,rfl,I4.ug,e1,Zi I4 e4 (fun b o z=>?_) q4⟩
     obtain⟨o',z'⟩:=I2.base.there b o z (fun z=>nomatch z)
     exact Nat.ne_of_lt (Nat.lt_of_lt_of_le (Heap.lt_size z') hp)
   | next=>exact False.elim hq'
   | brk=>exact False.elim hq'
   | cont=>exact False.elim hq'
end
end L2
namespace L2
open PySem PySem.Spec PyProof.Rows PySem.Calls
section
variable {X:Cx}
theorem aiP {n:Nat}{e:Expr}{te:TE}{p:Pos}{es:List Expr}{t:TJ} (he:PE X e te) (h:JP X (n+100000) es t) (hn:n+100000≤16777216:=by symm) :
   JP X n (.FormattedValue e (-1) none p::es) (fun σ H K=>te σ H fun x H1=>∃ z,x=.str z∧z.length≤100000∧t σ H1 K):=by
 intro out pins s σ H Q ho I ht
 refine joinParts_consE (joinParts_cons (FormattedValue_plain (fM (he pins _ σ H _ I ht) fun v s1 zq=>?_)))
 obtain⟨x,H1,I1,r,z,ex,hz,q⟩:=zq
 subst ex
 obtain⟨t',rfl⟩:=r
 have hl2:(out++z).length≤n+100000:=by rw [strLen_append];omega
 refine formatField_str (fun t' tk=>⟨?_,h _ pins _ σ H1 Q hl2 (I1.tok _) q⟩) ?_
 · rw [sizeLine_eq];omega
 · rw [sizeLine_eq];omega
variable {tg:Expr}
end
end L2
namespace L2
open PySem PySem.Spec PyProof.Rows PySem.Calls PySem.W
section
variable {K:PySem.W.Frag}{C A0 fI:Addr}{xo:Value}{xd:Option Addr}{cd cdA:ClassData}{sl:Array (Option Value)}
theorem avH {sl:Array (Option Value)} (hn:sl.size=6) {v:Option Value} (h4:sl[4]? = some v):∃ k0 k1 k2 k3 k5,sl.toList=[k0,k1,k2,k3,v,k5]:=by
 obtain⟨l⟩:=sl
 match l,hn with
 | [a,b,c,d,e,f],_ =>
   have:e=v:=by simpa using h4
   subst this
   exact⟨_,_,_,_,_,rfl⟩
theorem Wo (h:excIn K A0 fO "ValueError.__new__" = true) (hc:clsIn K A0=some cdA) (hm:cdA.mro=.ref A0::fO):tailIn K fO (.ref A0::fO)=true:=by
 unfold excIn at h
 split at h
 · rename_i dd cd sl ho
   have e:cd=cdA:=by unfold clsIn at hc;rw [ho] at hc;exact Option.some.inj hc
   subst e
   split at h
   · rename_i C' bm k0 k1 k2 k3 n k5 hm' hs
     simp only [Bool.and_eq_true,Bool.not_eq_true',beq_iff_eq] at h
     obtain⟨⟨⟨⟨⟨e1,e2⟩,e3⟩,e4⟩,e5⟩,e6⟩:=h
     have base:tailIn K fO fO=true:=by unfold tailIn;rfl
     unfold tailIn
     dsimp only
     rw [ho]
     simp only [Bool.or_eq_true,Bool.and_eq_true,beq_iff_eq]
     exact .inr ⟨⟨e5,e6⟩,base⟩
   · cases h
 · cases h
theorem MK (l:K.lookup C=some ⟨xo,xd,.cls cd,sl⟩) (ht:xo=.type "type") (hm:cd.mro=.ref C::.ref A0::fO) (hn:sl.size=6∧sl[4]? = some (some (.builtin "ValueError.__new__"))) (hd:cd.hasDel=false)
   (x:excIn K A0 fO "ValueError.__new__" = true) (hc:clsIn K A0=some cdA) (hmA:cdA.mro=.ref A0::fO):uB K C=true:=by
 subst ht
 obtain⟨k0,k1,k2,k3,k5,hs⟩:=avH hn.1 hn.2
 unfold uB
 rw [l]
 simp only [hm,hs]
 rw [Wo x hc hmA,hd]
 simp
theorem MN (l:K.lookup C=some ⟨xo,xd,.cls cd,sl⟩) (hm:cd.mro=.ref C::.ref A0::fO):(clsIn K C).any (fun cd=>ju cd.mro)=true:=by
 unfold clsIn
 rw [l]
 show ju cd.mro=true
 rw [hm]
 show (fO == fO)=true
 exact beq_self_eq_true _
end
section
variable {X:Cx}{scope:Scope}{x:Str}{M:List Str}{pins:List (Addr × Obj)}{σ:St}{H₂:Hp}{s₂:Shared}{elt iter tg:Expr}{ifs:List Expr}{pos px:Pos}{te:TE}{wi:TI}{g:TG}{tc:TT}
end
end L2
namespace L2
open PySem PySem.Spec PyProof.Rows PySem.Calls
theorem Bs {prog:Program}{w:World}{h h':Heap}{d:Addr}{kvs:List (Key × Value)} (x:h.DictOf (aX prog w) d kvs) (k:∀ o,h.get? d=some o→h'.get? d=some o):h'.DictOf (aX prog w) d kvs :=
 let ⟨o,es,ep,ho,r⟩:=x; ⟨o,es,ep,k o ho,r⟩
theorem Wq {prog:Program}{w:World}{A:Around}{R:Result→Shared→Prop}{d it l:Addr}{items:Array Value}{rows:List (Key × Value)}{res:Value}
   (hdi:d≠it) (hdl:d≠l) (hil:it≠l) (hand:A.handled=none) (hlen:items.size=rows.length) (hz:rows.length≤sizeLine) :
   ∀ (k i:Nat) (s:Shared),items.size - i=k→i≤items.size→s.heap.IsListIter it l i→s.heap.IsList l items →
     (∀ (j:Nat) (x:Value) (kv:Key × Value),items[j]? = some x→rows[j]? = some kv→∃ t u,x=.ref t∧IsTup s.heap t #[u,kv.2]∧(aX prog w).is kv.1 u=true∧t≠d∧t≠it) →
     s.heap.DictOf (aX prog w) d (merged [] (rows.take i)) →
     (∀ h' tk,(∀ b o,b≠d→b≠it→s.heap.get? b=some o→h'.get? b=some o)→h'.DictOf (aX prog w) d (merged [] rows)→R (.ok (.ret res)) { s with heap:=h',toks:=tk }) →
     codeAny (model prog w) A (.builtin "dict.update.loop" ⟨[.ref d,.ref it,rawInt (i:Nat),res],[]⟩) R s:=by
 intro k
 induction k with
 | zero =>
   intro i s hk hi hit hl hrow hd hR
   refine codeAny_builtin Qy ?_
   rw [Around.under_plainId (by symm)]
   unfold Builtin.«dict.update.loop»
   refine wpAny_bind (wpAny_pyNext_list_end hand hit hl (by rw [Array.getElem?_eq_none];omega) fun h2 x2=>?_)
   show wpAny _ _ (Builtin.Dict.addKeywords d [] >>= _) _ _ _
   refine wpAny_bind (wpAny_pure (wpAny_pure (hR h2 s.toks (fun b o _ hb e=>x2 b o hb e) ?_)))
   have e1:rows.take i=rows:=List.take_of_length_le (by omega)
   rw [e1] at hd
   exact Bs hd fun o e=>x2 d o hdi e
 | succ k ih =>
   intro i s hk hi hit hl hrow hd hR
   have hlt:i<items.size:=by omega
   obtain⟨x,hx⟩:∃ x,items[i]? = some x:=⟨_,Array.getElem?_eq_getElem hlt⟩
   obtain⟨kv,hkv⟩:∃ kv,rows[i]? = some kv:=⟨_,List.getElem?_eq_getElem (by omega)⟩
   obtain⟨t,u,rfl,ht,hu,htd,hti⟩:=hrow i x kv hx hkv
   refine codeAny_builtin Qy ?_
   rw [Around.under_plainId (by symm)]
   unfold Builtin.«dict.update.loop»
   refine wpAny_bind (wpAny_pyNext_list_item hit hl hx fun h1 it1 sb1=>?_)
   obtain⟨ot,hot,hct,nt,hdt⟩:=id ht
   have aiR:h1.get? t=some ot:=(sb1.2 t hti).trans hot
   show wpAny _ _ (holding [Value.ref t] _ >>= _) _ _ _
   refine wpAny_bind (wpAny_holding ?_)
   refine wpAny_bind (wpAny_tryCatch ?_)
   unfold Builtin.Dict.pairItems
   refine wpAny_bind (wpAny_typeOf (T:="tuple") ⟨_,aiR,hct⟩ ?_)
   rw [if_pos (by decide)]
   refine wpAny_bind (wpAny_seqItems aiR hdt ?_)
   refine wpAny_pure ?_
   show wpAny _ _ (holding [u,kv.2] (dictSet d u kv.2)) _ _ _
   have hle:(merged ([]:List (Key × Value)) (rows.take i)).length≤sizeLine:=by
     have e1:=merged_length_le ([]:List (Key × Value)) (rows.take i)
     have e2:=List.length_take_le i rows
     have e3:([]:List (Key × Value)).length=0:=rfl
     have e4:(rows.take i).length≤rows.length:=List.length_take_le' i rows
     omega
   refine wpAny_holding (wpAny_dictSet_pairs (s:={ s with heap:=h1 }) (kvs:=merged [] (rows.take i)) hu (Bs hd fun o e=>(sb1.2 d hdi).trans e) (fun h2 d2 sb2=>?_) hle)
   refine wpAny_pure ⟨plainId_quiet (by symm) _,?_⟩
   have hk2:∀ b o,b≠d→b≠it→s.heap.get? b=some o→h2.get? b=some o:=fun b o n1 n2 e=>(sb2.2 b n1).trans ((sb1.2 b n2).trans e)
   refine ih (i+1) _ (by omega) hlt ?_ ?_ ?_ ?_ ?_
   · obtain⟨oi,hoi,r⟩:=it1
     exact⟨oi,(sb2.2 it (Ne.symm hdi)).trans hoi,r⟩
   · obtain⟨ol,hol,r⟩:=hl
     exact⟨ol,hk2 l _ (Ne.symm hdl) (Ne.symm hil) hol,r⟩
   · intro j x kv hx hkv
     obtain⟨t,u,e,⟨o,ho,r⟩,hu,n1,n2⟩:=hrow j x kv hx hkv
     exact⟨t,u,e,⟨o,hk2 t _ n1 n2 ho,r⟩,hu,n1,n2⟩
   · rw [merged_take_succ _ _ _ _ hkv];exact d2
   · intro h' tk hk' hd'
     exact hR h' tk (fun b o n1 n2 e=>hk' b o n1 n2 (hk2 b o n1 n2 e)) hd'
abbrev mkD (rows:List (Key × V)):List (Key × V):=wM [] rows
def PrR (H:Hp) (x:V) (kv:Key × V):Prop:=∃ a,x=.ref a∧H a=some (.tup [kV kv.1,kv.2])
theorem Ve {P:Program}{w:World}{H:Hp}{h:Heap} (ok:uh P w H h):∀ {ts:List V}{rows:List (Key × V)}{its:List Value},Paired (PrR H) ts rows→Vals ts its →
   ∃ vs:List (Key × Value),KV rows vs∧∀ (j:Nat) (x:Value) (kv:Key × Value),its[j]? = some x→vs[j]? = some kv→∃ t u,x=.ref t∧(∃ ys,H t=some (.tup ys))∧IsTup h t #[u,kv.2]∧(aX P w).is kv.1 u=true
 | _,_,_,.nil,.nil=>⟨[],.nil,fun j x kv e=>by simp at e⟩
 | _,_,_,.cons r rs,.cons q qs=>by
   obtain⟨vs,hv,h2⟩:=Ve ok rs qs
   obtain⟨a,rfl,ha⟩:=r
   cases q
   obtain⟨_,us,ru,ht⟩:=(show bw P w H h a (.tup _) from ok a _ ha)
   cases ru with
   | cons r1 ru =>
     cases ru with
     | cons r2 ru =>
       cases ru
       refine⟨(_,_)::vs,.cons ⟨rfl,r2⟩ hv,fun j x kv e1 e2=>?_⟩
       cases j with
       | zero =>
         cases e1;cases e2
         exact⟨a,_,rfl,⟨_,ha⟩,ht,Dl r1⟩
       | succ j=>exact h2 j x kv e1 e2
theorem xQ {X:Cx} (hc:X.calm=true):d8 X (.type "dict") (fun xs H Q=>∃ p ts rows,xs=[.ref p]∧H p=some (.lst ts)∧Paired (PrR H) ts rows∧∀ d,H d=none→Q (.ref d) (upd H d (.dK (mkD rows)))):=by
 intro pins s σ H xs us Q I r h
 obtain⟨p,ts,rows,rfl,hp,Bu,q⟩:=h
 obtain⟨u,rfl,ru⟩:=r.one
 cases ru
 obtain⟨hz,its,n,rv,ho⟩:=(show bw X.prog X.w H s.heap p (.lst ts) from I.hok p _ hp)
 obtain⟨vs,hv,hrow⟩:=Ve I.hok Bu rv
 have big:=I.big
 have hand:X.A.handled=none:=I.ok.hd hc
 have aev:its.length=vs.length:=by rw [← rv.length,← hv.length];exact Paired.length Bu
 have hpl:=Heap.lt_size ho
 refine callType_codes (Q₁:=fun obj s₁=>obj=.ref s.heap.objs.size∧s₁={ s with heap:=s.heap.push { cls:=.type "dict",data:=.dict #[] } }) PySem.F.kt_called_dict (PySem.F.kt_typeCall_dict_1 _) PySem.F.entry_dict_init (kt_code_dict_new _ ⟨rfl,rfl⟩) ?_
 rintro obj s₁ ⟨rfl,rfl⟩
 have new:(s.heap.push { cls:=.type "dict",data:=.dict #[] }).DictOf (aX X.prog X.w) s.heap.objs.size []:=Heap.DictOf.new s.heap
 refine⟨new.typeIs,PySem.F.args_dict_init_2 _ _,?_⟩
 unfold Builtin.«dict.__init__» Builtin.Dict.selfAndRest
 refine wpAny_bind (wpAny_bind (wpAny_notOrdered_dict new.typeIs ?_))
 show wpAny _ _ (pure (s.heap.objs.size,[Value.ref p])) _ _ _
 refine wpAny_pure ?_
 show wpAny _ _ (Builtin.Dict.updateFrom "dict.__init__" _ (.ref p) [] .none) _ _ _
 unfold Builtin.Dict.updateFrom
 have ho1:=Heap.get?_push_of_some { cls:=.type "dict",data:=.dict #[] } ho
 refine wpAny_bind (wpAny_typeOf (T:="list") ⟨_,ho1,rfl⟩ ?_)
 rw [if_pos (by decide)]
 refine wpAny_bind (Zf ho1 (show X.A.in1.in1.handled=none from hand) fun h1 tk1 e1 x1=>?_)
 rw [if_pos (by rfl)]
 have ho2:=x1.keeps _ _ ho1
 have hl2:h1.IsList p its.toArray:=⟨_,ho2,rfl,n,rfl⟩
 refine wpAny_bind (wpAny_rule (wpAny_bind (wpAny_pyIter_list (s:={ s with heap:=h1,toks:=tk1 }) hl2 ?_)))
 have hsz1:s.heap.objs.size<h1.objs.size:=by
   obtain⟨o,_,_,ho,_⟩:=id new
   exact Heap.lt_size (x1.keeps _ _ ho)
 have kk:∀ b o,s.heap.get? b=some o→(h1.push { cls:=.type "list_iterator",data:=.fields #[.ref p,.int 0 0] }).get? b=some o:=fun b o e=>Heap.get?_push_of_some _ (x1.keeps b o (Heap.get?_push_of_some _ e))
 refine wpAny_pure ⟨plainId_quiet (by symm) _,?_⟩
 refine Wq (rows:=vs) (l:=p) (items:=its.toArray) (Nat.ne_of_lt hsz1) (Nat.ne_of_gt hpl) (Nat.ne_of_gt (Nat.lt_trans hpl hsz1)) (by first | exact hand | (rw [Around.under_plainId (by symm)];exact hand)) (by simpa using aev) (by rw [← aev,← rv.length];exact hz) _ 0 _ rfl (Nat.zero_le _) ?_ ?_ ?_ ?_ ?_
 · exact⟨_,Heap.get?_push_size _ rfl,rfl,rfl⟩
 · exact⟨_,kk _ _ ho,rfl,n,rfl⟩
 · intro j x kv e1 e2
   obtain⟨t,u,ex,⟨ys,hys⟩,⟨o,hot,r⟩,hu⟩:=hrow j x kv (by simpa using e1) e2
   have ht:=Heap.lt_size hot
   exact⟨t,u,ex,⟨o,kk _ _ hot,r⟩,hu,Nat.ne_of_lt ht,Nat.ne_of_lt (Nat.lt_trans ht hsz1)⟩
 · exact Bs new fun o e=>Heap.get?_push_of_some _ (x1.keeps _ _ e)
 · intro h' tk hk' hd'
   refine⟨rfl,.ref s.heap.objs.size,_,I.laid (a:=s.heap.objs.size) (o:=.dK (mkD rows)) (h':=h') (t':=tk) (fun b o e=>?_) (Nat.le_refl _) ⟨?_,beq_eq_false_iff_ne.mpr (Ne.symm (Nat.ne_of_lt big)),_,KV.merge hv .nil,hd'⟩,rfl,q _ (I.hok.fresh (Nat.le_refl _))⟩
   · have hb:=Heap.lt_size e
     exact hk' b o (Nat.ne_of_lt hb) (Nat.ne_of_lt (Nat.lt_trans hb hsz1)) (kk b o e)
   · refine Nat.le_trans (wA rows []) ?_
     rw [List.length_nil,Nat.zero_add,hv.length,← aev,← rv.length];exact hz
def Itm (a:Addr) (o:Obj):It :=
 ⟨fun i H=>∃ kvs,H a=some (.jG o (.dK kvs))∧i<kvs.length,
  fun i H z H'=>∃ T p,z=.ref T∧H T=none∧H'=upd H T (.tup [kV p.1,p.2])∧∀ kvs,H a=some (.jG o (.dK kvs))→kvs[i]? = some p,
  fun i H=>∃ kvs,H a=some (.jG o (.dK kvs))∧kvs.length≤i⟩
theorem Zj {P:Program}{w:World}{H:Hp}{h:Heap}{a:Addr}{o:Obj}{kvs:List (Key × V)}{es:Array DictEntry}{ep:Nat} (hd:o.data=.dict es ep) (ok:bw P w H h a (.jG o (.dK kvs))) :
   ∃ vs,KV kvs vs∧h.DictAt (aX P w) a vs ep∧es.size=kvs.length:=by
 obtain⟨e,_,_,vs,rv,o',es',ep',e',x,d',k',pr,nd⟩:=ok
 rw [e] at e'
 cases e'
 rw [hd] at d'
 cases d'
 exact⟨vs,rv,⟨o,es,e,x,hd,k',pr,nd⟩,by rw [← Array.length_toList,pr.length,← rv.length]⟩
theorem Vf {P:Program}{w:World}{k:Key}{u:Value} (hk:(aX P w).is k u=true):RelV (kV k) u:=by
 rw [RZ] at hk
 rcases yI hk with ⟨i,u,e,z⟩ | ⟨x,u,e,z⟩
 · rw [e,z];exact⟨u,rfl⟩
 · rw [e,z];exact⟨u,rfl⟩
theorem aew {kvs:List (Key × V)}{vs:List (Key × Value)} (r:KV kvs vs):∀ {i:Nat}{p:Key × V},kvs[i]? = some p→∃ v,vs[i]? = some (p.1,v)∧RelV p.2 v:=by
 induction r with
 | nil=>intro i p h;simp at h
 | @cons a b as bs h _ ih =>
   intro i p e
   cases i with
   | zero=>cases e;exact⟨b.2,by rw [h.1];rfl,h.2⟩
   | succ i=>exact ih e
theorem Td {P:Program}{w:World}{K:PySem.W.Frag}{elts:List Expr}{x1:Nat}{tp:Pos}{a it:Addr}{o:Obj}{es:Array DictEntry}{ep:Nat} (hd:o.data=.dict es ep) :
   Turn P w K (.Tuple elts x1 tp) (Itm a o) [it] it (fun i h=>(∃ ok ov,IsItemIter h it a i es.size ep ok ov)∧i≤es.size) where
 mem:=by simp
 obj:=fun i h st b hb=>by
   have e:b=it:=by simpa using hb
   subst e
   obtain⟨⟨k,v,q⟩,_⟩:=st
   exact⟨_,q,fun v z=>by cases z⟩
 keep:=fun i h h' st k=>by
   obtain⟨⟨ok,ov,q⟩,z⟩:=st
   exact⟨⟨ok,ov,k it (by simp) _ q⟩,z⟩
 item:=by
   intro X hP hw hK hc i pins s σ H E I hf st hg
   subst hP hw hK
   obtain⟨kvs,hq,hi⟩:=hg
   obtain⟨vs,rv,hat,sz⟩:=Zj hd (I.hok a _ hq)
   obtain⟨⟨ok,ov,hit⟩,hle⟩:=st
   have hx:kvs[i]? = some kvs[i]:=List.getElem?_eq_getElem hi
   obtain⟨v,hv,ru⟩:=aew rv hx
   rw [sz,rv.length] at hit
   refine wpAny_pyNext_items_item hit hat hv fun key h' hkey ho hT hsz hk=>?_
   refine⟨_,rfl,wpAny_letOwnedTupleGo_items (s:={ s with heap:=h' }) ho fun h'' b1 b2=>?_⟩
   have hN:H s.heap.objs.size=none:=I.hok.fresh (Nat.le_refl _)
   have lt:it<s.heap.objs.size:=Heap.lt_size hit
   have kk:∀ c o,c∉[it]→s.heap.get? c=some o→h''.get? c=some o:=fun c o hc q=>by
     simp only [List.mem_cons,List.not_mem_nil,or_false] at hc
     exact (b2.2 c hc).trans (hk c o hc q)
   have I1:Inv X pins σ H { s with heap:=h'' }:=I.GF (t':=s.toks) kk hf
   have zT:s.heap.objs.size≠it:=Nat.ne_of_gt lt
   have a5:=(b2.2 _ zT).trans hT
   have I2:=I1.track (a:=s.heap.objs.size) (o:=.tup [kV kvs[i].1,kvs[i].2]) (I.Hd (Nat.le_refl _) hN) I.sz ⟨by show 2≤sizeLine;decide,[key,v],.cons (Vf hkey) (.cons ru .nil),⟨_,a5,rfl,_,rfl⟩⟩
   rw [← rv.length,← sz] at b1
   refine⟨.ref s.heap.objs.size,_,I2,rfl,⟨_,kvs[i],rfl,hN,rfl,fun zs hzs=>by rw [hq] at hzs;cases hzs;exact hx⟩,⟨⟨_,_,b1⟩,by omega⟩,fun c hc=>?_⟩
   have e:c=it:=by simpa using hc
   subst e
   rw [zL (Nat.ne_of_lt lt)];exact (hf c hc).1
 done:=by
   intro X hP hw hK hc i pins s σ H E I hf st hg
   subst hP hw hK
   obtain⟨kvs,hq,hi⟩:=hg
   obtain⟨vs,rv,hat,sz⟩:=Zj hd (I.hok a _ hq)
   obtain⟨⟨ok,ov,hit⟩,hle⟩:=st
   rw [sz,rv.length] at hit
   obtain⟨f0,f1,f2,f3,f4,f5⟩:=hf it (by simp)
   exact wpAny_pyNext_items_end (I.ok.hd hc) hit hat (by rw [List.getElem?_eq_none_iff,← rv.length];exact hi) fun h' eb=>⟨rfl,I.turned (t':=s.toks) (fun b o hb e=>eb b o hb e) f0 f1 f3 f4 f5⟩
 self:=fun _ _ _ _ _ st h=>by
   obtain⟨⟨ok,ov,hit⟩,_⟩:=st
   exact PySem.W.kcp_self hit h
section
variable {X:Cx}{o:Expr}{to:TE}{apos cpos tp:Pos}{elts:List Expr}{x1:Nat}
def aex (to:TE):TI:=fun σ H R=>to σ H fun x H1=>∃ a kvs,x=.ref a∧Rd H1 a (.dK kvs)∧∀ o,R (Itm a o) (upd H1 a (.jG o (.dK kvs)))
theorem Zk (ho:PE X o to) (hbase:attributeBase o "items" X.env (eval o X.env)=eval o X.env:=by rfl) (hline:(apos.endLine == cpos.line)=true:=by rfl) :
   PI X (.Tuple elts x1 tp) (.Call (.Attribute o "items" apos) [] [] cpos) (aex to):=by
 intro pins s σ H R I h
 refine wpAny_Call_method0_late hbase hline (fM (ho pins s σ H _ I h) fun v s1 zq=>?_)
 obtain⟨x,H1,I1,r1,q1⟩:=zq
 obtain⟨a,kvs,e,hq,q⟩:=q1
 subst e
 cases r1
 obtain⟨t1,t2,_⟩:=Yk I1 (.inl ⟨kvs,hq⟩)
 refine⟨"dict","dict.items",PySem.F.plainAttrs_dict,PySem.F.slot_dict_items,PySem.F.type_dict_items,t1,t2,Calls.callWith_builtin rfl (PySem.evalArgs_none ?_)⟩
 obtain⟨hz,hS,vs,rv,od,es,ep,hod,hx,hdat,hk,hp,hn⟩:=ux I1.hok hq
 have hm:s1.heap.DictOf (aX X.prog X.w) a vs:=⟨od,es,ep,hod,hx,hdat,hk,hp,hn⟩
 refine call_meetsIn PySem.F.slot_dict_items t1 PySem.F.entry_dict_items (PySem.F.args_dict_items_1 _) (meets_dict_items (aX X.prog X.w) a hS) ⟨⟨vs,hm⟩,?_⟩
 have I2:Inv X pins σ (upd H1 a (.jG od (.dK kvs))) s1:=by
   have ok:bw X.prog X.w (upd H1 a (.jG od (.dK kvs))) s1.heap a (.jG od (.dK kvs)):=⟨hod,hz,hS,vs,rv,od,es,ep,hod,hx,hdat,hk,hp,hn⟩
   rcases hq with hq | ⟨o',hq⟩
   · exact I1.write (x:=a) (e:=a) (t':=s1.toks) (h':=s1.heap) (by rw [hq];exact True.intro) (.inl rfl) (fun b u _ z=>z) ⟨_,hod⟩ ok
   · obtain⟨e',_⟩:=(show bw X.prog X.w H1 s1.heap a (.jG o' (.dK kvs)) from I1.hok a _ hq)
     rw [hod] at e';cases e'
     rw [Ab hq];exact I1
 have sz:es.size=vs.length:=by rw [← Array.length_toList,hp.length]
 have k1:∀ b u,s1.heap.get? b=some u→(s1.heap.push { cls:=.type "dict_items",data:=.fields #[.ref a] }).get? b=some u:=fun b u e=>Heap.get?_push_of_some _ e
 refine wpAny_pyIter_items (knd:=aX X.prog X.w) (d:=a) (kvs:=vs) (ep:=ep) (s:={ s1 with heap:=s1.heap.push { cls:=.type "dict_items",data:=.fields #[.ref a] } }) ⟨_,Heap.get?_push_size _ rfl,rfl,rfl⟩ ⟨od,es,k1 _ _ hod,hx,hdat,hk,hp,hn⟩ ?_
 have I3:Inv X pins σ (upd H1 a (.jG od (.dK kvs))) { s1 with heap:=s1.heap.push { cls:=.type "dict_items",data:=.fields #[.ref a] } }:=I2.kept (t':=s1.toks) k1
 refine⟨_,[_],_,_,_,rfl,I3.kept (t':=s1.toks) fun b o e=>Heap.get?_push_of_some _ e,Td hdat,⟨⟨.none,.none,by rw [sz];exact Heap.get?_push_size _ rfl⟩,Nat.zero_le _⟩,fun b hb=>?_,q od⟩
 have e:b=(s1.heap.push { cls:=.type "dict_items",data:=.fields #[.ref a] }).objs.size:=by simpa using hb
 subst e
 exact I3.Hd (Nat.le_refl _) (I3.hok.fresh (Nat.le_refl _))
end
end L2
namespace L2
open PySem PySem.Spec PyProof.Rows PySem.Calls
theorem Wr {prog:Program}{w:World}{A:Around}{E:Value→Shared→Prop}{s:Shared}{Q:Int→Shared→Prop} (h:Q 4238894112 { s with toks:=s.toks+1 }):wpAny (model prog w) A (pyHash .none) Q E s:=by
 unfold pyHash
 have ty:s.TypeIs .none "NoneType":=rfl
 have hv:[Value.none].any Value.onHeap=false:=rfl
 show wpAny _ _ (pyHashByItsType .none) _ _ _
 unfold pyHashByItsType
 refine wpAny_bind ?_
 rw [cRoomFor,if_neg (by rw [hv];exact Bool.false_ne_true)]
 refine wpAny_pure ?_
 refine wpAny_bind (wpAny_specialOf ty PySem.F.slot_NoneType_hash.lookup ?_)
 show wpAny _ _ (if (some (Value.builtin "NoneType.__hash__") == some Value.none)=true then _ else _) Q E s
 rw [if_neg (by rw [beq_builtin_none];exact Bool.false_ne_true)]
 refine wpAny_bind (wpAny_specialOf ty PySem.F.slot_NoneType_hash.lookup ?_)
 show wpAny _ _ (callSpecialIfBoundUnlessNone? .none "__hash__" _ >>= _) Q E s
 refine wpAny_bind (wpAny_callSpecialIfBoundUnlessNone?_slot ty PySem.F.slot_NoneType_hash (wpAny_call_entry PySem.F.slot_NoneType_hash ty PySem.F.entry_NoneType_hash ?_ (PySem.F.args_NoneType_hash_1 _)))
 unfold Builtin.«NoneType.__hash__»
 refine wpAny_bind (wpAny_pure ?_)
 show wpAny _ _ (do ret (← mkInt 4238894112)) _ _ s
 refine wpAny_ret_mkInt ?_
 show wpAny _ _ (if (decide (-(2:Int) ^ 63≤4238894112) && decide ((4238894112:Int)<2 ^ 63))=true then _ else _) Q E _
 rw [if_pos (by decide)]
 exact wpAny_pure h
def Vg:Option Key→Value→Bool
 | none,.none=>true
 | some k,v=>yz k v
 | _,_=>false
theorem yV:∀ {k:Option Key}{v:Value},Vg k v=true→(k=none∧v=Value.none)∨∃ q,k=some q∧yz q v=true
 | none,v,h=>by
   cases v <;> first | exact .inl ⟨rfl,rfl⟩ | exact nomatch h
 | some q,v,h=>.inr ⟨q,rfl,by simpa [Vg] using h⟩
theorem Zm (a b:Key):decide ((some a:Option Key)=some b)=decide (a=b):=by
 by_cases e:a=b
 · subst e;simp
 · rw [decide_eq_false e,decide_eq_false (fun q=>e (Option.some.inj q))]
theorem aey (b:Key):decide ((none:Option Key)=some b)=false:=decide_eq_false (fun q=>nomatch q)
theorem Zn (b:Key):decide ((some b:Option Key)=none)=false:=decide_eq_false (fun q=>nomatch q)
def optKind (prog:Program) (w:World):PySem.KeyKind prog w (Option Key) where
 is:=Vg
 hash:=fun | none=>4238894112 | some k=>ahW w k
 inj:=fun v a b ha hb=>by
   rcases yV ha with ⟨rfl,rfl⟩ | ⟨p,rfl,hp⟩
   · rcases yV hb with ⟨rfl,_⟩ | ⟨q,rfl,hq⟩
     · rfl
     · rcases yI hq with ⟨_,_,_,e⟩ | ⟨_,_,_,e⟩ <;> exact nomatch e
   · rcases yV hb with ⟨rfl,rfl⟩ | ⟨q,rfl,hq⟩
     · rcases yI hp with ⟨_,_,_,e⟩ | ⟨_,_,_,e⟩ <;> exact nomatch e
     · rw [(aX prog w).inj v p q hp hq]
 byValue:=fun k v h=>by
   rcases yV h with ⟨rfl,rfl⟩ | ⟨p,rfl,hp⟩
   · rfl
   · exact (aX prog w).byValue p v hp
 pyHash:=fun hv h=>by
   rcases yV hv with ⟨rfl,rfl⟩ | ⟨p,rfl,hp⟩
   · exact Wr h
   · exact (aX prog w).pyHash hp h
 eqBool:=fun hu hv h=>by
   rcases yV hu with ⟨rfl,rfl⟩ | ⟨p,rfl,hp⟩
   · rcases yV hv with ⟨rfl,rfl⟩ | ⟨q,rfl,hq⟩
     · exact (SeqAt.EqAt.same _) _ _ _ _ h
     · rw [aey] at h
       rcases yI hq with ⟨j,u,rfl,rfl⟩ | ⟨y,u,rfl,rfl⟩
       · exact SeqAt.EqAt.none_int j u _ _ _ _ h
       · exact SeqAt.EqAt.none_str y u _ _ _ _ h
   · rcases yV hv with ⟨rfl,rfl⟩ | ⟨q,rfl,hq⟩
     · rw [Zn] at h
       rcases yI hp with ⟨j,u,rfl,rfl⟩ | ⟨y,u,rfl,rfl⟩
       · exact SeqAt.EqAt.int_none j u _ _ _ _ h
       · exact SeqAt.EqAt.str_none y u _ _ _ _ h
     · rw [Zm] at h;exact (aX prog w).eqBool hp hq h
 «strs»:=fun k x t v h=>by
   rcases yV h with ⟨rfl,e⟩ | ⟨p,rfl,hp⟩
   · exact nomatch e
   · exact (aX prog w).strs p x t v hp
theorem MP {prog:Program}{w:World}:∀ {es:List DictEntry}{vs:List (Key × Value)},Pairs (aX prog w) es vs→Pairs (optKind prog w) es (vs.map fun p=>(some p.1,p.2))
 | _,_,.nil=>.nil
 | _,_,.cons hk hh t=>.cons hk hh (MP t)
theorem HB {prog:Program}{w:World}{h:Heap}{d:Addr}{vs:List (Key × Value)} (x:h.DictOf (aX prog w) d vs):h.DictOf (optKind prog w) d (vs.map fun p=>(some p.1,p.2)):=by
 obtain⟨o,es,ep,ho,hc,hd,hk,hp,hn⟩:=x
 refine⟨o,es,ep,ho,hc,hd,fun e he=>?_,MP hp,?_⟩
 · obtain⟨k,h1,h2⟩:=hk e he
   exact⟨some k,h1,h2⟩
 · rw [List.map_map]
   have:((fun x:Option Key × Value=>x.1) ∘ fun p:Key × Value=>(some p.1,p.2))=(fun k=>some k) ∘ fun p:Key × Value=>p.1:=rfl
   rw [this,← List.map_map]
   exact List.Pairwise.map _ (fun a b ne e=>ne (Option.some.inj e)) hn
theorem QD (vs:List (Key × Value)):valueAt (vs.map fun p=>((some p.1:Option Key),p.2)) none=none:=by
 induction vs with
 | nil=>rfl
 | cons a r ih =>
   unfold valueAt at ih ⊢
   rw [List.map_cons,List.find?_cons,Zn]
   exact ih
section
variable {X:Cx}
theorem ab0:jZ X (compareOp .In) (fun x y H Q=>∃ a kvs,x=.non∧y=.ref a∧Rd H a (.dK kvs)∧Q (.bl false) H):=by
 intro pins s σ H x y v u Q I rx ry h
 obtain⟨a,kvs,rfl,rfl,g,q⟩:=h
 cases rx
 cases ry
 obtain⟨z,hd,vs,rel,dd⟩:=ux I.hok g
 refine wpAny_in_of (knd:=optKind X.prog X.w) (k:=none) rfl hd (HB dd).mapOf ?_
 rw [QD]
 exact⟨.bl false,H,I.tok _,rfl,q⟩
theorem Te:jZ X (compareOp .NotIn) (fun x y H Q=>∃ a kvs,x=.non∧y=.ref a∧Rd H a (.dK kvs)∧Q (.bl true) H):=by
 intro pins s σ H x y v u Q I rx ry h
 obtain⟨a,kvs,rfl,rfl,g,q⟩:=h
 cases rx
 cases ry
 obtain⟨z,hd,vs,rel,dd⟩:=ux I.hok g
 refine wpAny_notIn_of (knd:=optKind X.prog X.w) (k:=none) rfl hd (HB dd).mapOf ?_
 rw [QD]
 exact⟨.bl true,H,I.tok _,rfl,q⟩
theorem Zo {op:Value→Value→Sem Value}{r r':V→V→Hp→VK→Prop} (h:jZ X op r) (h':jZ X op r'):jZ X op (fun x y H Q=>r x y H Q∨r' x y H Q):=by
 intro pins s σ H x y v u Q I rx ry q
 rcases q with q | q
 · exact h pins s σ H x y v u Q I rx ry q
 · exact h' pins s σ H x y v u Q I rx ry q
theorem Tf (hu:X.A.units+1<cLine):jZ X (compareOp .In) (fun x y H Q=>(∃ a o,y=.ref a∧jt H a x o∧Q (.bl o.isSome) H)∨∃ a kvs,x=.non∧y=.ref a∧Rd H a (.dK kvs)∧Q (.bl false) H)
:=Zo (GJ hu) ab0
theorem Bv (hu:X.A.units+1<cLine):jZ X (compareOp .NotIn) (fun x y H Q=>(∃ a o,y=.ref a∧jt H a x o∧Q (.bl (!o.isSome)) H)∨∃ a kvs,x=.non∧y=.ref a∧Rd H a (.dK kvs)∧Q (.bl true) H)
:=Zo (rO hu) Te
end
theorem HD {K:PySem.W.Frag}{a:Addr}{xs:List V}{tc:TT}{te:TE}{σ:St}{H:Hp}{Q:VK} (hz:xs.length≤sizeLine) (W:Nat→List V→Hp→Prop) (h0:W 0 [] H) (hq:∀ i ys H,W i ys H→cB K H a xs)
   (hs:∀ i x ys H,xs[i]? = some x→ys.length≤i→W i ys H→∀ T,H T=none→tc (some (.int i)::some x::σ) (upd H T (.tup [.int i,x])) fun c H3=>if c=true then te (some (.int i)::some x::σ) H3 fun z H4=>W (i+1) (ys++[z]) H4 else W (i+1) ys H3)
   (hd:∀ ys H,W xs.length ys H→∀ p,H p=none→Q (.ref p) (upd H p (.lst ys))):N7 K (Ite K a) tc te σ H Q:=by
 refine⟨xs.length,W,hz,h0,fun i ys H hi hl hw=>?_⟩
 have q:=hq i ys H hw
 by_cases hlt:i<xs.length
 · refine .inr ⟨⟨xs,xs[i],q,by simp [hlt]⟩,hlt,fun v H' y=>?_⟩
   obtain⟨T,x,rfl,hT,rfl,e⟩:=y
   exact⟨T,_,_,rfl,jJ.of zB,hs i x ys H (e xs q) hl hw T hT⟩
 · have e:i=xs.length:=by omega
   subst e
   exact .inl ⟨⟨xs,q,Nat.le_refl _⟩,hd ys H hw⟩
theorem QF {K:PySem.W.Frag}{a:Addr}{o:Obj}{kvs:List (Key × V)}{tc:TT}{te:TE}{σ:St}{H:Hp}{Q:VK} (hz:kvs.length≤sizeLine) (W:Nat→List V→Hp→Prop) (h0:W 0 [] H) (hq:∀ i ys H,W i ys H→H a=some (.jG o (.dK kvs)))
   (hs:∀ i x ys H,kvs[i]? = some x→ys.length≤i→W i ys H→∀ T,H T=none→tc (some (kV x.1)::some x.2::σ) (upd H T (.tup [kV x.1,x.2])) fun c H3=>if c=true then te (some (kV x.1)::some x.2::σ) H3 fun z H4=>W (i+1) (ys++[z]) H4 else W (i+1) ys H3)
   (hd:∀ ys H,W kvs.length ys H→∀ p,H p=none→Q (.ref p) (upd H p (.lst ys))):N7 K (Itm a o) tc te σ H Q:=by
 refine⟨kvs.length,W,hz,h0,fun i ys H hi hl hw=>?_⟩
 have q:=hq i ys H hw
 by_cases hlt:i<kvs.length
 · refine .inr ⟨⟨kvs,q,hlt⟩,hlt,fun v H' y=>?_⟩
   obtain⟨T,x,rfl,hT,rfl,e⟩:=y
   exact⟨T,_,_,rfl,jJ.of zB,hs i x ys H (e kvs q) hl hw T hT⟩
 · have e:i=kvs.length:=by omega
   subst e
   exact .inl ⟨⟨kvs,q,Nat.le_refl _⟩,hd ys H hw⟩
theorem PS.RT {X:Cx}{st:Stmt}{t:TS} (h:PS X.RT st t):PS X st t:=fun pins s σ H D I hw =>
 wpAny_mono (h pins s σ H D (I.wish _) hw) (fun _ _ q=>q.iB) fun _ _ z=>False.elim z
end L2
namespace L2
open PySem PySem.Spec PyProof.Rows PySem.Calls
def avJ (B:Heap) (l:List Env) (e:Addr) (cls:Value) (dct:Option Addr) (h:Heap):Prop :=
 B.StaysIn h∧B.get? e=none∧h.FunFrames B l∧∃ oe vs,h.get? e=some oe∧(oe.cls=cls∧oe.dict=dct)∧oe.data=.fields vs∧vs[1]? = some .none
section
variable {M:Model}{A:Around}{E:Value→Shared→Prop}{s:Shared}
theorem MT {base:Heap}{env:Env}{l:List Env}{L e:Addr}{cls:Value}{dct:Option Addr}{Q:Unit→Shared→Prop} (hf:env.frame=some L) (x:p7 base l e cls dct (rawInt L) s.heap) (h:Q () s):wpAny M A (noteFrame (.ref e) env) Q E s:=by
 obtain⟨hkb,hen,hl,oe,vs,T,oT,ts,he,hc,hd,h1,hnT,hTe,hT,hdT,h3⟩:=x
 unfold noteFrame
 simp only [hf]
 refine wpAny_bind (wpAny_field he hd h1 ?_)
 rw [if_pos (show (Value.ref T != Value.none)=true from by simp)]
 refine wpAny_bind (wpAny_field hT hdT h3 ?_)
 rw [if_pos (show (rawInt L == rawInt L)=true from beq_self_eq_true _)]
 exact wpAny_pure h
theorem ab1 {base:Heap}{l:List Env}{e L:Addr}{cls fl:Value}{dct:Option Addr}{Q:Unit→Shared→Prop} (x:p7 base l e cls dct fl s.heap)
   (h:∀ h',p7 base l e cls dct (rawInt L) h'→s.heap.UpToSlots h'→Q () { s with heap:=h' }):wpAny M A (setFlight (.ref e) (some L)) Q E s:=by
 obtain⟨hkb,hen,hl,oe,vs,T,oT,ts,he,hc,hd,h1,hnT,hTe,hT,hdT,h3⟩:=x
 have z3:3<ts.size:=(Array.getElem?_eq_some_iff.mp h3).1
 have oth:∀ b,b≠T→(s.heap.update T (Obj.mapFields (·.setIfInBounds 3 ((some L:Option Addr).elim Value.none fun f=>rawInt f)))).get? b=s.heap.get? b :=
   fun b z=>Heap.get?_update_other _ _ (Ne.symm z)
 have Yv:∀ b o,s.heap.get? b=some o→(∀ vs,o.data≠.fields vs)→b≠T:=fun b o z1 z2 q=>by
   rw [q,hT] at z1;injection z1 with z1;subst z1;exact z2 ts hdT
 unfold setFlight
 refine wpAny_bind (wpAny_field he hd h1 ?_)
 rw [if_pos (show (Value.ref T != Value.none)=true from by simp)]
 refine wpAny_setField hT hdT z3 (h _ ⟨fun b o z=>(oth b fun q=>by rw [q,hnT] at z;cases z).trans (hkb b o z),hen,
   hl.of_keeps fun b o z1 z2=>⟨o,(oth b (Yv b o z1 z2)).trans z1,rfl⟩,?_⟩ fun b o z1 z2=>⟨o.slots,(oth b (Yv b o z1 z2)).trans z1⟩)
 exact⟨oe,vs,T,_,_,(oth e (Ne.symm hTe)).trans he,hc,hd,h1,hnT,hTe,Heap.get?_update_self _ hT (Obj.isFreed_of_fields (Obj.data_mapFields hdT _)),Obj.data_mapFields hdT _,by simp [z3]⟩
end
def XL (P:Program) (w:World) (outer:List Env) (H:Hp) (s:Shared) (E:XK) (env:Env) (L:Addr):Value→Shared→Prop:=fun e s' =>
 ∃ (ea:Addr) (cls:Value) (dct:Option Addr) (H':Hp) (B:Heap),e=.ref ea∧(avJ B (env::outer) ea cls dct s'.heap∨p7 B (env::outer) ea cls dct .none s'.heap∨p7 B (env::outer) ea cls dct (rawInt L) s'.heap)∧s'.os=s.os∧AllBare s'.gens∧uh P w H' B∧Xo outer H H' s.heap B s'.heap∧E cls dct H'
theorem Xo.M3 {outer:List Env}{env:Env}{H H':Hp}{h B h1 h2 base:Heap} (x:Xo outer H H' h B h1) (fr:h1.FunFrames base (env::outer)) (up:h1.UpToSlots h2):Xo outer H H' h B h2:=x.step fr.2.2 up
section
variable {P:Program}{w:World}{K:PySem.W.Frag}{mg:Str→Option Value}{base:Heap}{N:List Str}{qual:Str}{scope:Scope}{f:Addr}{cdv:Value}{A:Around}{outer:List Env}{s:Shared}{H:Hp}{E:XK}
abbrev LX (P:Program) (w:World) (K:PySem.W.Frag) (mg:Str→Option Value) (base:Heap) (N:List Str) (qual:Str) (scope:Scope) (f:Addr) (cdv:Value) (A:Around) (outer:List Env) (s:Shared) (H:Hp) (E:XK):Cx :=
 (eF (jf P w) P w K mg base N qual scope f cdv A outer s H E).wish (XL P w outer H s E (envOfC qual scope s.heap.objs.size f cdv) s.heap.objs.size)
theorem ab2 (hfr:(eF (jf P w) P w K mg base N qual scope f cdv A outer s H E).A.frames=some (envOfC qual scope s.heap.objs.size f cdv::outer)):PassesOwn (model P w) (eF (jf P w) P w K mg base N qual scope f cdv A outer s H E).A (envOfC qual scope s.heap.objs.size f cdv) (XL P w outer H s E (envOfC qual scope s.heap.objs.size f cdv) s.heap.objs.size):=by
 intro e s' h
 obtain⟨ea,cls,dct,H',B,rfl,fl,os,bare,hok,x,hE⟩:=h
 have fin:∀ h',p7 B (envOfC qual scope s.heap.objs.size f cdv::outer) ea cls dct (rawInt s.heap.objs.size) h'→Xo outer H H' s.heap B h' →
     cameBackBy (model P w) (eF (jf P w) P w K mg base N qual scope f cdv A outer s H E).A (envOfC qual scope s.heap.objs.size f cdv) (XL P w outer H s E (envOfC qual scope s.heap.objs.size f cdv) s.heap.objs.size) (.ref ea) { s' with heap:=h' }:=fun h' fl x=>by
   obtain⟨_,_,fr,oe,vs,T,oT,ts,he,hc,hd,h1,_⟩:=id fl
   unfold cameBackBy
   refine wpAny_bind (wpAny_field he hd h1 ?_)
   rw [if_neg (show ¬ ((Value.ref T == Value.none)=true) from by simp)]
   refine ab1 (s:={ s' with heap:=h' }) fl fun h2 Wf up=>?_
   exact⟨ea,cls,dct,H',B,rfl,.inr (.inr Wf),os,bare,hok,x.M3 fr up,hE⟩
 rcases fl with fl | fl | fl
 · obtain⟨st,fe,fr,oe,vs,he,⟨hc,hdc⟩,hd,h1⟩:=fl
   subst hc hdc
   exact Hn hfr fr rfl he st fe hd h1 fun h2 Wf up=>fin h2 Wf (x.M3 fr up)
 · exact NK hfr rfl fl fun h2 Wf up=>fin h2 Wf (x.M3 fl.2.2.1 up)
 · exact MT rfl fl (fin s'.heap fl x)
theorem Ws (hfr:(eF (jf P w) P w K mg base N qual scope f cdv A outer s H E).A.frames=some (envOfC qual scope s.heap.objs.size f cdv::outer)) {e:Value}{s':Shared} (h:XL P w outer H s E (envOfC qual scope s.heap.objs.size f cdv) s.heap.objs.size e s'):(eF (jf P w) P w K mg base N qual scope f cdv A outer s H E).xe e s':=by
 obtain⟨ea,cls,dct,H',B,rfl,fl,os,bare,hok,x,hE⟩:=h
 show wpAny (model P w) _ (leaving (envOfC qual scope s.heap.objs.size f cdv) (.ref ea)) _ _ _
 rcases fl with fl | fl | fl
 · obtain⟨st,fe,fr,oe,vs,he,⟨hc,hdc⟩,hd,h1⟩:=fl
   subst hc hdc
   exact Dp hfr fr rfl he st fe hd h1 fun h2 Wf up=>⟨ea,_,_,H',B,rfl,Wf,os,bare,hok,x.M3 fr up,hE⟩
 · exact Qo hfr rfl fl fun h2 Wf up=>⟨ea,cls,dct,H',B,rfl,Wf,os,bare,hok,x.M3 fl.2.2.1 up,hE⟩
 · unfold leaving
   refine wpAny_bind (MT rfl fl ?_)
   refine zx fl fun h2 Wf up=>⟨ea,cls,dct,H',B,rfl,Wf.less,os,bare,hok,x.M3 fl.2.2.1 up,hE⟩
theorem PS.inL {st:Stmt}{t:TS} (h:PS (LX P w K mg base N qual scope f cdv A outer s H E) st t):PS (eF (jf P w) P w K mg base N qual scope f cdv A outer s H E) st t:=fun pins s1 σ H1 D I hw =>
 wpAny_mono (h pins s1 σ H1 D (I.wish _) hw) (fun _ _ q=>q.iB) fun _ _ z=>Ws I.ok.frames z
theorem QG:Passes (jf P w) (LX P w K mg base N qual scope f cdv A outer s H E) E:=by
 intro pins σ H1 s1 e s' I h
 have I:Inv (eF (jf P w) P w K mg base N qual scope f cdv A outer s H E) pins σ H1 s1:=I.iB
 obtain⟨ea,cls,dct,H',B,rfl,fl,os,bare,hok,x,hE⟩:=h
 have Yw:∀ b o,s.heap.get? b=some o→b∉frs outer→b∉frs (eF (jf P w) P w K mg base N qual scope f cdv A outer s H E).stack:=fun b o q n z=>by
   rcases List.mem_cons.mp (I.rE b z) with z | z
   · have:b<s.heap.objs.size:=Heap.lt_size q
     have a:=I.ok.above
     rw [← z] at a
     exact absurd (Nat.lt_of_lt_of_le this a) (Nat.lt_irrefl _)
   · exact n z
 have x2:=x
 refine⟨ea,cls,dct,H',B,rfl,.inr (.inl fl),os.trans I.os,bare,hok,⟨fun b o q n hb=>?_,fun b o q hb=>?_,fun b o q n hb=>?_,fun b o q n=>?_,fun b xs q=>x.tups b xs (I.base.tups b xs q),fun b o u q=>x.j4 b o u (I.base.j4 b o u q),fun b ps q=>?_⟩,hE⟩
 · exact x.U3 b o (I.base.keep b o q n hb (fun z=>nomatch z)) (I.base.free b o q n (fun z=>nomatch z)) (Yw b o q hb)
 · obtain⟨o',q'⟩:=I.base.there b o q (fun z=>nomatch z)
   exact x.Ho b o' q' (Yw b o q hb)
 · obtain⟨sl,q'⟩:=I.base.slot b o q n hb (fun z=>nomatch z)
   obtain⟨sl',q2⟩:=x2.slot b _ q' (I.base.free b o q n (fun z=>nomatch z)) (by
     obtain⟨env,he,hf⟩:=List.mem_filterMap.mp hb
     exact List.mem_filterMap.mpr ⟨env,List.mem_cons_of_mem _ he,hf⟩)
   exact⟨sl',q2⟩
 · obtain⟨o',q'⟩:=I.base.there b o q (fun z=>nomatch z)
   exact x.free b o' q' (I.base.free b o q n (fun z=>nomatch z))
 · obtain⟨m1,e1⟩:=I.base.mZ b ps q
   obtain⟨m2,e2⟩:=x.mZ b _ e1
   exact⟨m1++m2,by rw [e2,Array.append_assoc]⟩
end
section
variable {P:Program}{w:World}{K:PySem.W.Frag}{mg:Str→Option Value}{base:Heap}
theorem Zq {pins:List (Addr × Obj)}{σ:St}{H1:Hp}{s1:Shared}{e C dx:Addr} (I:Inv (eF (jf P w) P w K mg base N qual scope f cdv A outer s H E) pins σ H1 s1)
   (he:H1 e=some (m8 e C (some dx))) (new:∀ b o,s.heap.get? b=some o→b≠e) (hE:E (.ref C) (some dx) (hid H1 e)):XL P w outer H s E (envOfC qual scope s.heap.objs.size f cdv) s.heap.objs.size (.ref e) s1:=by
 obtain⟨⟨t0,e0⟩,_⟩:=(show bw P w H1 s1.heap e (m8 e C (some dx)) from I.hok e _ he)
 have hst:=I.stack
 have hin:∀ env∈(eF (jf P w) P w K mg base N qual scope f cdv A outer s H E).stack,∀ b,env.frame=some b→b∈frs (eF (jf P w) P w K mg base N qual scope f cdv A outer s H E).stack:=fun env he b hb=>List.mem_filterMap.mpr ⟨env,he,hb⟩
 have ntr:e∉frs (eF (jf P w) P w K mg base N qual scope f cdv A outer s H E).stack:=fun z=>by rw [I.vB e z] at he;cases he
 generalize hB:PySem.W.hideAll s1.heap (e::frs (eF (jf P w) P w K mg base N qual scope f cdv A outer s H E).stack)=B
 have stB:B.StaysIn s1.heap:=fun b o q=>by rw [← hB] at q;exact PySem.W.of_hideAll _ q
 have Tc:∀ b o,s1.heap.get? b=some o→b≠e→b∉frs (eF (jf P w) P w K mg base N qual scope f cdv A outer s H E).stack→B.get? b=some o:=fun b o q n1 n=>by
   rw [← hB];exact PySem.W.hideAll_get _ q fun z=>(List.mem_cons.mp z).elim n1 n
 have frB:s1.heap.FunFrames B (eF (jf P w) P w K mg base N qual scope f cdv A outer s H E).stack:=by rw [← hB];exact PySem.W.funFrames_hide hst fun env he b hb=>List.mem_cons_of_mem _ (hin env he b hb)
 have Yw:∀ b o,s.heap.get? b=some o→b∉frs outer→b∉frs (eF (jf P w) P w K mg base N qual scope f cdv A outer s H E).stack:=fun b o q n z=>by
   rcases List.mem_cons.mp (I.rE b z) with z | z
   · have:b<s.heap.objs.size:=Heap.lt_size q
     have a:=I.ok.above
     rw [← z] at a
     exact absurd (Nat.lt_of_lt_of_le this a) (Nat.lt_irrefl _)
   · exact n z
 have fe:B.get? e=none:=by
   cases q:B.get? e with
   | none=>rfl
   | some o=>rw [← hB,PySem.W.hideAll_none _ (List.mem_cons_self)] at q;cases q
 have nx:∀ b u,H1 b=some u→b≠e→hid H1 e b=some u:=fun b u z n=>by unfold hid;rw [if_neg n];exact z
 refine⟨e,.ref C,some dx,hid H1 e,B,rfl,.inl ⟨stB,fe,frB,_,_,e0,⟨rfl,rfl⟩,rfl,rfl⟩,I.os,I.bare,fun a o q=>?_,⟨fun b o q n hb=>?_,fun b o q hb=>?_,fun b o q n hb=>?_,fun b o q n=>?_,fun b xs q=>?_,fun b o u q=>?_,fun b ps q=>?_⟩,hE⟩
 · have na:a≠e:=fun z=>by subst z;unfold hid at q;rw [if_pos rfl] at q;cases q
   have q':H1 a=some o:=by unfold hid at q;rw [if_neg na] at q;exact q
   refine (I.hok a o q').stay (fun b u hb z=>Tc b u z (fun y=>?_) fun m=>?_) (fun b z=>nx b _ z fun y=>?_) (fun b xs z=>nx b _ z fun y=>?_)
   · rcases hb with r | r
     · exact na (r.symm.trans y)
     · rw [y,he] at r;cases r
   · have z:=I.vB b m
     rcases hb with r | r
     · rw [r,q'] at z;cases z
     · rw [r] at z;cases z
   · rw [y,he] at z;cases z
   · rw [y,he] at z;cases z
 · exact Tc b o (I.base.keep b o q n hb (fun z=>nomatch z)) (new b o q) (Yw b o q hb)
 · obtain⟨o',q'⟩:=I.base.there b o q (fun z=>nomatch z)
   exact⟨o',Tc b o' q' (new b o q) (Yw b o q hb)⟩
 · obtain⟨sl,q'⟩:=I.base.slot b o q n hb (fun z=>nomatch z)
   exact⟨sl,q'⟩
 · have z:=I.base.free b o q n (fun z=>nomatch z)
   unfold hid;split
   · rfl
   · exact z
 · exact nx b _ (I.base.tups b xs q) fun y=>by have z:=I.base.tups b xs q;rw [y,he] at z;cases z
 · exact nx b _ (I.base.j4 b o u q) fun y=>by have z:=I.base.j4 b o u q;rw [y,he] at z;cases z
 · obtain⟨m1,e1⟩:=I.base.mZ b ps q
   exact⟨m1,nx b _ e1 fun y=>by rw [y,he] at e1;cases e1⟩
theorem Bw {x:Str}{C fI:Addr}{np cpos pos:Pos}{e₀:Expr}{rest:List Expr}{t:TA}{fd:FuncData}{ps:List Str}{sp:Sp}{k:Nat} (Mx:MkX K C fI) (F:aN P w K mg base (jf P w) k fI fd ps sp) (hr:gK (k+1) (eF (jf P w) P w K mg base N qual scope f cdv A outer s H E).A)
   (hb:Binds K fd ps []) (hm:mg x=some (.ref C)) (ha:PA (LX P w K mg base N qual scope f cdv A outer s H E) (e₀::rest) t) (hg:Gl (eF (jf P w) P w K mg base N qual scope f cdv A outer s H E) x)
   (he:starEach (e₀::rest) (envOfC qual scope s.heap.objs.size f cdv)=(false,eval e₀ (envOfC qual scope s.heap.objs.size f cdv))::starEach rest (envOfC qual scope s.heap.objs.size f cdv):=by rfl)
   (hpl:(backTo cpos (starEach rest (envOfC qual scope s.heap.objs.size f cdv))).any (·.1)=false:=by rfl) (hd:(x == ("__debug__":Str))=false:=by decide) :
   PS (LX P w K mg base N qual scope f cdv A outer s H E) (.Raise (some (.Call (.Name x np) (e₀::rest) [] cpos)) none pos) (Vd E C sp t):=by
 intro pins s1 σ H1 D I h
 have I:Inv (eF (jf P w) P w K mg base N qual scope f cdv A outer s H E) pins σ H1 s1:=I.iB
 have hand:(eF (jf P w) P w K mg base N qual scope f cdv A outer s H E).A.handled=none:=I.ok.hd rfl
 rw [arm_exec_Raise]
 refine wpAny_bind (wpAny_standAt ?_)
 simp only [evalOpt,Option.map]
 refine Du (K:=K) (C:=C) hand Mx.ex (wpAny_bind (wpAny_mono (wpAny_Call_ofName (xZ I hg hm ?_ hd)) (fun v s₃ h₃=>wpAny_bind (wpAny_standAt (wpAny_pure h₃))) fun _ _ x=>x))
 refine PySem.W.callWith_K (h₀:=base) I.ok.mod.kin Mx.kp (fM (ha cpos pins s1 σ H1 _ (I.wish _) h) fun us s2 ⟨vs,H2,I2,r,hl,q⟩=>⟨I2.ug,?_⟩) he hpl
 have I2:Inv (eF (jf P w) P w K mg base N qual scope f cdv A outer s H E) pins σ H2 s2:=I2.iB
 refine QB I2.ug Mx.ex Mx.init Mx.fn (by rw [List.nil_append,← r.length];exact hl) fun h' e t0 hp ee kp sz=>?_
 have fe:H2 e=none:=I2.hok.fresh hp
 have I3:Inv (eF (jf P w) P w K mg base N qual scope f cdv A outer s H E) pins σ (upd H2 e (m8 e C none)) { s2 with heap:=h',toks:=s2.toks }:=I2.laid kp hp (GK ee)
 have q':=q e fe
 have r2:Vals (V.ref e::vs) (Value.ref e::us):=.cons rfl r
 have hl2:(Value.ref e::us).length=ps.length:=by rw [← r2.length];exact F.len _ _ _ _ q'
 have hb':=hb { s2 with heap:=h' } (Value.ref e::us) I3.ug (by rw [List.append_nil];exact hl2)
 rw [List.append_nil] at hb'
 refine wpAny_call (codeAny_mono (F.run _ _ _ _ ⟨Value.ref e::us,[]⟩ (Value.ref e::us) _ _ E0 (hr.make C us []) (I3.env0.make C us []) hb' r2 q') fun r' s' hq'=>?_)
 cases r' with
 | error ex=>exact (Vc (X:=eF (jf P w) P w K mg base N qual scope f cdv A outer s H E) hq').elim
 | ok fl =>
   cases fl with
   | ret u =>
     obtain⟨v,H4,I4,rv,ev,dx,e4,q4⟩:=I3.after hq'
     subst ev
     cases (show u=Value.none from rv)
     obtain⟨⟨t1,e1⟩,_⟩:=(show bw P w H4 s'.heap e (m8 e C (some dx)) from I4.hok e _ e4)
     refine⟨rfl,e,t1,some dx,rfl,I4.ug,e1,Zq I4 e4 (fun b o z=>?_) q4⟩
     obtain⟨o',z'⟩:=I2.base.there b o z (fun z=>nomatch z)
     exact Nat.ne_of_lt (Nat.lt_of_lt_of_le (Heap.lt_size z') hp)
   | next=>exact False.elim hq'
   | brk=>exact False.elim hq'
   | cont=>exact False.elim hq'
theorem vJ {tg iter:Expr}{body:List Stmt}{g:TG}{tb:TS}{wi:TI}{pos:Pos} (hi:PI (LX P w K mg base N qual scope f cdv A outer s H E) tg iter wi) (hg:PG (LX P w K mg base N qual scope f cdv A outer s H E) tg g) (hb:qG (LX P w K mg base N qual scope f cdv A outer s H E) body tb)
   (hs:∀ x,foldedSetIterable iter (envOfC qual scope s.heap.objs.size f cdv) x=pure x:=by intro _;rfl):PS (LX P w K mg base N qual scope f cdv A outer s H E) (.For tg iter body [] pos) (ac7 wi g tb):=fun pins s1 σ H1 D I h =>
 yT (X:=LX P w K mg base N qual scope f cdv A outer s H E) (ab2 I.iB.ok.frames) rfl hi hg hb hs pins s1 σ H1 D I h
end
end L2
namespace L2
open PySem PySem.Spec PyProof.Rows PySem.Calls
theorem Zr {X:Cx}{c a b:Expr}{tc ta tb:TT}{pos:Pos} (hc:PT X c tc) (ha:PT X a ta) (hb:PT X b tb):PT X (.IfExp c a b pos) (fun σ H Q=>tc σ H fun k H1=>if k=true then ta σ H1 Q else tb σ H1 Q):=by
 intro pins s σ H Q I h
 rw [PySem.isTrue]
 refine wpAny_bind (fM (hc pins s σ H _ I h) fun v s1 zq=>?_)
 obtain⟨H1,I1,q1⟩:=zq
 cases v with
 | true=>exact ha pins s1 σ H1 Q I1 (by simpa using q1)
 | false=>exact hb pins s1 σ H1 Q I1 (by simpa using q1)
theorem J8 {X:Cx}:d8 X (.type "str") (fun xs H Q=>xs=[.non]∧Q (.str ‹"None"›) H):=by
 intro pins s σ H xs us Q I r h
 obtain⟨rfl,q⟩:=h
 obtain⟨u,rfl,ru⟩:=vals1 r
 cases ru
 exact PySem.P.str_of_none ⟨.str _,H,I.tok _,⟨_,rfl⟩,q⟩
end L2
namespace L2
open PySem PySem.Spec PyProof.Rows PySem.Calls
end L2
namespace L2
open PySem PySem.Spec PyProof.Rows PySem.Calls
def oV:Option Key→V
 | none=>.non
 | some k=>kV k
theorem Zt {P:Program}{w:World}{k:Option Key}{u:Value} (r:RelV (oV k) u):(optKind P w).is k u=true:=by
 cases k with
 | none=>cases (show u=Value.none from r);rfl
 | some k=>exact Dl (P:=P) (w:=w) (k:=k) r
theorem adf {P:Program}{w:World}{k:Option Key}{u:Value} (h:(optKind P w).is k u=true):RelV (oV k) u:=by
 rcases yV (show Vg k u=true from h) with ⟨rfl,rfl⟩ | ⟨q,rfl,hq⟩
 · exact rfl
 · exact Vf (P:=P) (w:=w) hq
def dO (P:Program) (w:World) (a:Addr) (kvs:List (Option Key × V)):HO:=.ext fun h=>kvs.length≤sizeLine∧(a == sysModules)=false∧∃ vs,KV kvs vs∧h.DictOf (optKind P w) a vs
section
variable {P:Program}{w:World}{H:Hp}{h:Heap}{a:Addr}{kvs:List (Option Key × V)}
theorem QH {vs:List (Option Key × Value)} (z:kvs.length≤sizeLine) (hd:(a == sysModules)=false) (rel:KV kvs vs) (dd:h.DictOf (optKind P w) a vs):bw P w H h a (dO P w a kvs):=by
 refine⟨⟨z,hd,vs,rel,dd⟩,?_,fun h1 h2 x k=>?_⟩
 · obtain⟨q,_,_,hq,_⟩:=dd
   exact⟨q,hq⟩
 · obtain⟨z,hd,vs,rel,o,es,ep,e,c⟩:=x
   exact⟨z,hd,vs,rel,o,es,ep,k _ e,c⟩
theorem QJ (ok:uh P w H h) (e:Rd H a (dO P w a kvs)):kvs.length≤sizeLine∧(a == sysModules)=false∧∃ vs,KV kvs vs∧h.DictOf (optKind P w) a vs:=(Yh ok e).1
theorem adg (ok:uh P w H h) (e:H a=some (dO P w a kvs)):kvs.length≤sizeLine∧(a == sysModules)=false∧∃ vs,KV kvs vs∧h.DictOf (optKind P w) a vs:=QJ ok (.inl e)
theorem QK (h:Heap) (hb:sysModules<h.objs.size):bw P w H (h.push { cls:=.type "dict",data:=.dict #[] }) h.objs.size (dO P w h.objs.size []) :=
 QH (vs:=[]) (Nat.zero_le _) (beq_eq_false_iff_ne.mpr (Ne.symm (Nat.ne_of_lt hb))) .nil (Heap.DictOf.new h)
end
def aiS:Value→V
 | .none=>.non
 | .bool b=>.bl b
 | .int i _=>.int i
 | .str x _=>.str x
 | .bytes b _=>.Xn b
 | .float b _=>.flt b
 | .ref a=>.ref a
 | .type n=>.ty n
 | _=>.non
theorem RelV.back {x:V}{v:Value} (r:RelV x v):x=aiS v:=by
 cases x with
 | non=>cases (show v=Value.none from r);rfl
 | bl b=>cases (show v=Value.bool b from r);rfl
 | int i=>obtain⟨t,rfl⟩:=r;rfl
 | str i=>obtain⟨t,rfl⟩:=r;rfl
 | Xn i=>obtain⟨t,rfl⟩:=r;rfl
 | flt i=>obtain⟨t,rfl⟩:=r;rfl
 | ref i=>cases (show v=Value.ref i from r);rfl
 | ty i=>cases (show v=Value.type i from r);rfl
theorem RelV.uniq {x y:V}{v:Value} (a:RelV x v) (b:RelV y v):x=y:=a.back.trans b.back.symm
section
variable {X:Cx}{pos:Pos}
def Zu (P:Program) (w:World):TE:=fun _ H Q=>∀ p,H p=none→Q (.ref p) (upd H p (dO P w p []))
theorem Zv:PE X (.Dict [] [] pos) (Zu X.prog X.w):=fun pins s σ H Q I h =>
 wpAny_Dict_empty ⟨.ref s.heap.objs.size,_,I.laid (a:=s.heap.objs.size) (o:=dO X.prog X.w s.heap.objs.size []) (t':=s.toks) (fun _ _ q=>Heap.get?_push_of_some _ q) (Nat.le_refl _) (QK s.heap I.big),rfl,h _ (I.hok.fresh (Nat.le_refl _))⟩
def Zw (P:Program) (w:World) (tk tv:TE):TE:=fun σ H Q=>∀ p,H p=none→tk σ (upd H p (dO P w p [])) fun x H1=>tv σ H1 fun y H2=>H2 p=some (dO P w p [])∧∃ k,x=oV k∧Q (.ref p) (upd H2 p (dO P w p [(k,y)]))
theorem Zx {ke ve:Expr}{tk tv:TE} (hk:PE X ke tk) (hv:PE X ve tv):PE X (.Dict [some ke] [ve] pos) (Zw X.prog X.w tk tv):=by
 intro pins s σ H Q I q
 have hn:=I.hok.fresh (Nat.le_refl s.heap.objs.size)
 have I1:=I.laid (a:=s.heap.objs.size) (o:=dO X.prog X.w s.heap.objs.size []) (h':=s.heap.push { cls:=.type "dict",data:=.dict #[] }) (t':=s.toks) (fun _ _ q=>Heap.get?_push_of_some _ q) (Nat.le_refl _) (QK s.heap I.big)
 have pp:Br X pos [some ke] [ve] [(tk,tv)]:=Yj hk hv abN
 have qq:Ss [(tk,tv)] σ (upd H s.heap.objs.size (dO X.prog X.w s.heap.objs.size [])) (fun ps H2=>match ps with | [(x,y)]=>H2 s.heap.objs.size=some (dO X.prog X.w s.heap.objs.size [])∧∃ k,x=oV k∧Q (.ref s.heap.objs.size) (upd H2 s.heap.objs.size (dO X.prog X.w s.heap.objs.size [(k,y)])) | _=>False):=q _ hn
 refine wpAny_Dict_walk (knd:=optKind X.prog X.w) rfl rfl (by simp) (by show 1≤15;decide) (fM (pp pins _ σ _ _ I1 qq) fun ws s2 zq=>?_)
 obtain⟨ps,H2,I2,rel,g⟩:=zq
 match ps,rel,g with
 | [(x,y)],rel,g =>
   obtain⟨e,k,ek,q2⟩:=g
   subst ek
   cases rel with
   | @cons _ b _ bs h t =>
     cases t
     obtain⟨b1,b2⟩:=b
     obtain⟨z,hd,vs0,r0,dd⟩:=adg I2.hok e
     cases r0
     refine⟨[(k,b2)],⟨Zt h.1,rfl,True.intro⟩,dd,fun h' dd' hs=>⟨.ref s.heap.objs.size,_,?_,rfl,q2⟩⟩
     have he:∃ q,h'.get? s.heap.objs.size=some q:=let ⟨q,_,_,hq,_⟩:=dd'; ⟨q,hq⟩
     exact Gy I2 (by rw [e];exact True.intro) hs he (QH (vs:=[(k,b2)]) (by show 1≤sizeLine;decide) hd (.cons ⟨rfl,h.2⟩ .nil) dd')
def Zy (P:Program) (w:World) (td ty tv:TE):TS:=fun D σ H=>tv σ H fun v H1=>td σ H1 fun x H2=>ty σ H2 fun y H3=>∃ a kvs k,x=.ref a∧y=oV k∧H3 a=some (dO P w a kvs)∧kvs.length<sizeLine∧D.nx σ (upd H3 a (dO P w a (putK kvs k v)))
theorem Zz {o i value:Expr}{td ty tv:TE}{pos':Pos} (ho:PE X o td) (hi:PE X i ty) (hv:PE X value tv) (hs:swapsWith value (some (.Subscript o i pos')) pos.line X.env=pure false) :
   PS X (.Assign [.Subscript o i pos'] value pos) (Zy X.prog X.w td ty tv):=by
 intro pins s σ H D I h
 refine wpAny_Assign_Subscript (fM (hv pins s σ H _ I h) fun r s1 ⟨v,H1,I1,rv,q1⟩=>fM (ho pins s1 σ H1 _ I1 q1) fun u s2 ⟨x,H2,I2,rx,q2⟩=>fM (hi pins s2 σ H2 _ I2 q2) fun iv s3 ⟨y,H3,I3,ry,a,kvs,k,ex,ey,e,l,q3⟩=>?_) hs
 subst ex ey
 obtain rfl:u=Value.ref a:=rx
 obtain⟨z,hd,vs,rel,dd⟩:=adg I3.hok e
 have hz:vs.length≤sizeLine:=by rw [← rel.length];exact z
 have hl:(putK kvs k v).length≤sizeLine:=by have:=xK kvs k v;omega
 refine wpAny_setItem_pairs (hsz:=hz) (Zt ry) dd fun h' dd' hs=>⟨σ,_,?_,q3⟩
 have he:∃ q,h'.get? a=some q:=let ⟨q,_,_,hq,_⟩:=dd'; ⟨q,hq⟩
 exact Gy I3 (by rw [e];exact True.intro) hs he (QH hl hd (rel.put k rv) dd')
def Vh (P:Program) (w:World) (td ty tx:TE):TE:=fun σ H Q=>td σ H fun x H1=>∃ a kvs,x=.ref a∧Rd H1 a (dO P w a kvs)∧ty σ H1 fun y H2=>tx σ H2 fun z H3=>∃ kvs k,Rd H3 a (dO P w a kvs)∧y=oV k∧Q ((dW kvs k).getD z) H3
theorem Wt {o e f:Expr}{apos cpos:Pos}{td ty tx:TE} (ho:PE X o td) (he:PE X e ty) (hf:PE X f tx) (m:M2 X o "get" apos e f cpos):PE X (.Call (.Attribute o "get" apos) [e,f] [] cpos) (Vh X.prog X.w td ty tx):=by
 intro pins s σ H Q I h
 refine wpAny_Call_method m.base m.few m.line PySem.F.plainAttrs_dict PySem.F.slot_dict_get PySem.F.type_dict_get (fM (ho pins s σ H _ I h) fun u s1 zq=>?_)
 obtain⟨x,H1,I1,rx,a,kvs,ex,d,q1⟩:=zq
 subst ex
 obtain rfl:u=Value.ref a:=rx
 obtain⟨_,hd,vs,_,dd⟩:=QJ I1.hok d
 refine⟨dd.typeIs,fun b q=>?_,?_⟩
 · cases q
   obtain⟨ob,_,_,h1,h2,_⟩:=dd
   exact⟨ob,h1,h2.2.1⟩
 rw [m.trees]
 refine Calls.callWith_builtin rfl (Calls.evalArgs_plain (Calls.spliced_cons (fM (he pins s1 σ H1 _ I1 q1) fun iv s2 ⟨y,H2,I2,ry,q2⟩ =>
   Calls.spliced_cons (fM (hf pins s2 σ H2 _ I2 q2) fun fv s3 ⟨z,H3,I3,rz,kvs,k,g,ey,q3⟩=>Calls.spliced_nil ?_))))
 subst ey
 obtain⟨z,hd,vs,rel,dd⟩:=QJ I3.hok g
 refine call_meetsIn PySem.F.slot_dict_get dd.typeIs PySem.F.entry_dict_get (PySem.F.args_dict_get_3 _ _ _) (meets_dict_get_default (optKind X.prog X.w) a (Zt ry) hd fv) ⟨_,dd.mapOf,⟨_,H3,I3.tok _,(rel.val k).getD rz,q3⟩⟩
end
theorem ab3 {kvs:List (Option Key × V)}{vs:List (Option Key × Value)} (r:KV kvs vs):∀ {i:Nat}{p:Option Key × V},kvs[i]? = some p→∃ v,vs[i]? = some (p.1,v)∧RelV p.2 v:=by
 induction r with
 | nil=>intro i p h;simp at h
 | @cons a b as bs h _ ih =>
   intro i p e
   cases i with
   | zero=>cases e;exact⟨b.2,by rw [h.1];rfl,h.2⟩
   | succ i=>exact ih e
def wQ (P:Program) (w:World) (o:Obj) (kvs:List (Option Key × V)):Prop:=∃ es ep vs,o.data=.dict es ep∧Pairs (optKind P w) es.toList vs∧KV kvs vs
theorem HF {P:Program}{w:World}:∀ {es:List DictEntry}{vs us:List (Option Key × Value)},Pairs (optKind P w) es vs→Pairs (optKind P w) es us→vs=us
 | _,_,_,.nil,.nil=>rfl
 | _,(a,x)::_,(b,y)::_,.cons h1 e1 t1,.cons h2 e2 t2=>by
   have k1:a=b:=(optKind P w).inj _ _ _ h1 h2
   have k2:x=y:=(show x=_ from e1.symm).trans e2
   rw [HF t1 t2,k1,k2]
theorem Vi:∀ {kvs lvs:List (Option Key × V)}{vs:List (Option Key × Value)},KV kvs vs→KV lvs vs→kvs=lvs
 | _,_,_,.nil,.nil=>rfl
 | (a,x)::_,(b,y)::_,(c,z)::_,.cons h1 t1,.cons h2 t2=>by
   obtain⟨e1,r1⟩:=h1
   obtain⟨e2,r2⟩:=h2
   have e1:a=c:=e1
   have e2:b=c:=e2
   have e3:x=y:=RelV.uniq r1 r2
   rw [Vi t1 t2,e1,e2,e3]
theorem wQ.uniq {P:Program}{w:World}{o:Obj}{kvs lvs:List (Option Key × V)} (h:wQ P w o kvs) (k:wQ P w o lvs):kvs=lvs:=by
 obtain⟨es,ep,vs,d1,p1,r1⟩:=h
 obtain⟨es2,ep2,vs2,d2,p2,r2⟩:=k
 rw [d1] at d2
 cases d2
 cases HF p1 p2
 exact Vi r1 r2
theorem Vj {P:Program}{w:World}{H:Hp}{h:Heap}{a:Addr}{o:Obj}{kvs:List (Option Key × V)}{es:Array DictEntry}{ep:Nat} (hd:o.data=.dict es ep) (ok:bw P w H h a (.jG o (dO P w a kvs))) :
   ∃ vs,KV kvs vs∧h.DictAt (optKind P w) a vs ep∧es.size=kvs.length∧wQ P w o kvs:=by
 obtain⟨e,⟨_,_,vs,rv,o',es',ep',e',x,d',k',pr,nd⟩,_⟩:=ok
 rw [e] at e'
 cases e'
 rw [hd] at d'
 cases d'
 exact⟨vs,rv,⟨o,es,e,x,hd,k',pr,nd⟩,by rw [← Array.length_toList,pr.length,← rv.length],es,ep,vs,hd,pr,rv⟩
def aez (P:Program) (w:World) (a:Addr) (o:Obj):It :=
 ⟨fun i H=>∃ kvs,H a=some (.jG o (dO P w a kvs))∧wQ P w o kvs∧i<kvs.length,
  fun i H z H'=>∃ T p,z=.ref T∧H T=none∧H'=upd H T (.tup [oV p.1,p.2])∧∀ kvs,wQ P w o kvs→kvs[i]? = some p,
  fun i H=>∃ kvs,H a=some (.jG o (dO P w a kvs))∧wQ P w o kvs∧kvs.length≤i⟩
theorem QL {P:Program}{w:World}{K:PySem.W.Frag}{elts:List Expr}{x1:Nat}{tp:Pos}{a it:Addr}{o:Obj}{es:Array DictEntry}{ep:Nat} (hd:o.data=.dict es ep) :
   Turn P w K (.Tuple elts x1 tp) (aez P w a o) [it] it (fun i h=>(∃ ok ov,IsItemIter h it a i es.size ep ok ov)∧i≤es.size) where
 mem:=by simp
 obj:=fun i h st b hb=>by
   have e:b=it:=by simpa using hb
   subst e
   obtain⟨⟨k,v,q⟩,_⟩:=st
   exact⟨_,q,fun v z=>by cases z⟩
 keep:=fun i h h' st k=>by
   obtain⟨⟨ok,ov,q⟩,z⟩:=st
   exact⟨⟨ok,ov,k it (by simp) _ q⟩,z⟩
 item:=by
   intro X hP hw hK hc i pins s σ H E I hf st hg
   subst hP hw hK
   obtain⟨kvs,hq,_,hi⟩:=hg
   obtain⟨vs,rv,hat,sz,en⟩:=Vj hd (I.hok a _ hq)
   obtain⟨⟨ok,ov,hit⟩,hle⟩:=st
   have hx:kvs[i]? = some kvs[i]:=List.getElem?_eq_getElem hi
   obtain⟨v,hv,ru⟩:=ab3 rv hx
   rw [sz,rv.length] at hit
   refine wpAny_pyNext_items_item hit hat hv fun key h' hkey ho hT hsz hk=>?_
   refine⟨_,rfl,wpAny_letOwnedTupleGo_items (s:={ s with heap:=h' }) ho fun h'' b1 b2=>?_⟩
   have hN:H s.heap.objs.size=none:=I.hok.fresh (Nat.le_refl _)
   have lt:it<s.heap.objs.size:=Heap.lt_size hit
   have kk:∀ c o,c∉[it]→s.heap.get? c=some o→h''.get? c=some o:=fun c o hc q=>by
     simp only [List.mem_cons,List.not_mem_nil,or_false] at hc
     exact (b2.2 c hc).trans (hk c o hc q)
   have I1:Inv X pins σ H { s with heap:=h'' }:=I.GF (t':=s.toks) kk hf
   have zT:s.heap.objs.size≠it:=Nat.ne_of_gt lt
   have a5:=(b2.2 _ zT).trans hT
   have I2:=I1.track (a:=s.heap.objs.size) (o:=.tup [oV kvs[i].1,kvs[i].2]) (I.Hd (Nat.le_refl _) hN) I.sz ⟨by show 2≤sizeLine;decide,[key,v],.cons (adf hkey) (.cons ru .nil),⟨_,a5,rfl,_,rfl⟩⟩
   rw [← rv.length,← sz] at b1
   refine⟨.ref s.heap.objs.size,_,I2,rfl,⟨_,kvs[i],rfl,hN,rfl,fun zs hzs=>by rw [← en.uniq hzs];exact hx⟩,⟨⟨_,_,b1⟩,by omega⟩,fun c hc=>?_⟩
   have e:c=it:=by simpa using hc
   subst e
   rw [zL (Nat.ne_of_lt lt)];exact (hf c hc).1
 done:=by
   intro X hP hw hK hc i pins s σ H E I hf st hg
   subst hP hw hK
   obtain⟨kvs,hq,_,hi⟩:=hg
   obtain⟨vs,rv,hat,sz,_⟩:=Vj hd (I.hok a _ hq)
   obtain⟨⟨ok,ov,hit⟩,hle⟩:=st
   rw [sz,rv.length] at hit
   obtain⟨f0,f1,f2,f3,f4,f5⟩:=hf it (by simp)
   exact wpAny_pyNext_items_end (I.ok.hd hc) hit hat (by rw [List.getElem?_eq_none_iff,← rv.length];exact hi) fun h' eb=>⟨rfl,I.turned (t':=s.toks) (fun b o hb e=>eb b o hb e) f0 f1 f3 f4 f5⟩
 self:=fun _ _ _ _ _ st h=>by
   obtain⟨⟨ok,ov,hit⟩,_⟩:=st
   exact PySem.W.kcp_self hit h
section
variable {X:Cx}{o:Expr}{to:TE}{apos cpos tp:Pos}{elts:List Expr}{x1:Nat}
def Vk (P:Program) (w:World) (to:TE):TI:=fun σ H R=>to σ H fun x H1=>∃ a kvs,x=.ref a∧Rd H1 a (dO P w a kvs)∧∀ o,wQ P w o kvs→R (aez P w a o) (upd H1 a (.jG o (dO P w a kvs)))
theorem Wu (ho:PE X o to) (hbase:attributeBase o "items" X.env (eval o X.env)=eval o X.env:=by rfl) (hline:(apos.endLine == cpos.line)=true:=by rfl) :
   PI X (.Tuple elts x1 tp) (.Call (.Attribute o "items" apos) [] [] cpos) (Vk X.prog X.w to):=by
 intro pins s σ H R I h
 refine wpAny_Call_method0_late hbase hline (fM (ho pins s σ H _ I h) fun v s1 zq=>?_)
 obtain⟨x,H1,I1,r1,q1⟩:=zq
 obtain⟨a,kvs,e,hq,q⟩:=q1
 subst e
 cases r1
 obtain⟨hz,hS,vs,rv,od,es,ep,hod,hx,hdat,hk,hp,hn⟩:=QJ I1.hok hq
 have hm:s1.heap.DictOf (optKind X.prog X.w) a vs:=⟨od,es,ep,hod,hx,hdat,hk,hp,hn⟩
 refine⟨"dict","dict.items",PySem.F.plainAttrs_dict,PySem.F.slot_dict_items,PySem.F.type_dict_items,hm.typeIs,(fun b q=>by cases q;exact⟨od,hod,hx.2.1⟩),Calls.callWith_builtin rfl (PySem.evalArgs_none ?_)⟩
 refine call_meetsIn PySem.F.slot_dict_items hm.typeIs PySem.F.entry_dict_items (PySem.F.args_dict_items_1 _) (meets_dict_items (optKind X.prog X.w) a hS) ⟨⟨vs,hm⟩,?_⟩
 have I2:Inv X pins σ (upd H1 a (.jG od (dO X.prog X.w a kvs))) s1:=by
   have ok:bw X.prog X.w (upd H1 a (.jG od (dO X.prog X.w a kvs))) s1.heap a (.jG od (dO X.prog X.w a kvs)):=⟨hod,QH hz hS rv hm⟩
   rcases hq with hq | ⟨o',hq⟩
   · exact I1.write (x:=a) (e:=a) (t':=s1.toks) (h':=s1.heap) (by rw [hq];exact True.intro) (.inl rfl) (fun b u _ z=>z) ⟨_,hod⟩ ok
   · obtain⟨e',_⟩:=(show bw X.prog X.w H1 s1.heap a (.jG o' (dO X.prog X.w a kvs)) from I1.hok a _ hq)
     rw [hod] at e';cases e'
     rw [Ab hq];exact I1
 have sz:es.size=vs.length:=by rw [← Array.length_toList,hp.length]
 have k1:∀ b u,s1.heap.get? b=some u→(s1.heap.push { cls:=.type "dict_items",data:=.fields #[.ref a] }).get? b=some u:=fun b u e=>Heap.get?_push_of_some _ e
 refine wpAny_pyIter_items (knd:=optKind X.prog X.w) (d:=a) (kvs:=vs) (ep:=ep) (s:={ s1 with heap:=s1.heap.push { cls:=.type "dict_items",data:=.fields #[.ref a] } }) ⟨_,Heap.get?_push_size _ rfl,rfl,rfl⟩ ⟨od,es,k1 _ _ hod,hx,hdat,hk,hp,hn⟩ ?_
 have I3:Inv X pins σ (upd H1 a (.jG od (dO X.prog X.w a kvs))) { s1 with heap:=s1.heap.push { cls:=.type "dict_items",data:=.fields #[.ref a] } }:=I2.kept (t':=s1.toks) k1
 refine⟨_,[_],_,_,_,rfl,I3.kept (t':=s1.toks) fun b o e=>Heap.get?_push_of_some _ e,QL hdat,⟨⟨.none,.none,by rw [sz];exact Heap.get?_push_size _ rfl⟩,Nat.zero_le _⟩,fun b hb=>?_,q od ⟨es,ep,vs,hdat,hp,rv⟩⟩
 have e:b=(s1.heap.push { cls:=.type "dict_items",data:=.fields #[.ref a] }).objs.size:=by simpa using hb
 subst e
 exact I3.Hd (Nat.le_refl _) (I3.hok.fresh (Nat.le_refl _))
end
section
variable {P:Program}{w:World}{a:Addr}{o:Obj}{kvs:List (Option Key × V)}{σ:St}{H:Hp}
theorem Tg {g:TG}{tb:TS}{D:Ends} (en:wQ P w o kvs) (Pv:Nat→St→Hp→Prop) (h0:Pv 0 σ H) (hq:∀ i σ H,i≤kvs.length→Pv i σ H→H a=some (.jG o (dO P w a kvs)))
   (hs:∀ i p σ H,kvs[i]? = some p→Pv i σ H→∀ T,H T=none→g (.ref T) σ (upd H T (.tup [oV p.1,p.2])) fun σ2 H2=>tb { D with nx:=Pv (i+1),ct:=Pv (i+1),bk:=D.nx } σ2 H2) (hd:∀ σ H,Pv kvs.length σ H→D.nx σ H):Yt (aez P w a o) g tb D σ H:=by
 refine⟨fun i m σ H=>i≤kvs.length∧m=kvs.length - i∧Pv i σ H,⟨_,Nat.zero_le _,rfl,h0⟩,fun i m σ H ⟨hi,hm,hp⟩=>?_⟩
 have q1:=hq i σ H hi hp
 by_cases c:i=kvs.length
 · subst c
   exact .inl ⟨⟨kvs,q1,en,Nat.le_refl _⟩,hd σ H hp⟩
 · have hlt:i<kvs.length:=by omega
   refine .inr ⟨⟨kvs,q1,en,hlt⟩,Pv (i+1),fun σ' H' hn=>⟨kvs.length - (i+1),by omega,by omega,rfl,hn⟩,fun z H' hz=>?_⟩
   obtain⟨T,p,rfl,hT,rfl,e1⟩:=hz
   exact hs i p σ H (e1 kvs en) hp T hT
end
def aeA (P:Program) (w:World) (a:Addr) (o:Obj):It :=
 ⟨fun i H=>∃ kvs,H a=some (.jG o (dO P w a kvs))∧wQ P w o kvs∧i<kvs.length,
  fun i H z H'=>H'=H∧∀ kvs,wQ P w o kvs→(kvs.map fun p=>oV p.1)[i]? = some z,
  fun i H=>∃ kvs,H a=some (.jG o (dO P w a kvs))∧wQ P w o kvs∧kvs.length≤i⟩
theorem M4 {P:Program}{w:World}:∀ {es:List DictEntry}{vs:List (Option Key × Value)}{kvs:List (Option Key × V)},Pairs (optKind P w) es vs→KV kvs vs→Vals (kvs.map fun p=>oV p.1) (es.map (·.key))
 | _,_,_,.nil,.nil=>.nil
 | _,_,_,.cons hk _ t,.cons r t'=>by
   refine .cons ?_ (M4 t t')
   dsimp only
   rw [r.1]
   exact adf hk
theorem QM {P:Program}{w:World}{H:Hp}{h:Heap}{a:Addr}{o:Obj}{kvs:List (Option Key × V)}{es:Array DictEntry}{ep:Nat} (hd:o.data=.dict es ep) (ok:bw P w H h a (.jG o (dO P w a kvs))) :
   Er h a es ep∧Vals (kvs.map fun p=>oV p.1) (es.toList.map (·.key))∧es.size=kvs.length∧wQ P w o kvs:=by
 obtain⟨e,⟨_,_,vs,rv,o',es',ep',e',x,d',_,pr,_⟩,_⟩:=ok
 rw [e] at e'
 cases e'
 rw [hd] at d'
 cases d'
 exact⟨⟨o,e,x,hd⟩,M4 pr rv,by rw [← Array.length_toList,pr.length,← rv.length],es,ep,vs,hd,pr,rv⟩
theorem Th {P:Program}{w:World}{K:PySem.W.Frag}{tg:Expr}{a it:Addr}{o:Obj}{es:Array DictEntry}{ep:Nat} (hd:o.data=.dict es ep):Turn P w K tg (aeA P w a o) [it] it (fun i h=>h.IsKeyIter it a i es.size ep∧i≤es.size) where
 mem:=by simp
 obj:=fun i h st b hb=>by
   have e:b=it:=by simpa using hb
   subst e
   obtain⟨⟨ob,q,c,d⟩,_⟩:=st
   exact⟨ob,q,fun v z=>by rw [d] at z;cases z⟩
 keep:=fun i h h' st k=>⟨st.1.at fun ob q=>k it (by simp) ob q,st.2⟩
 item:=by
   intro X hP hw hK hc i pins s σ H E I hf st hg
   subst hP hw hK
   obtain⟨kvs,hq,_,hi⟩:=hg
   obtain⟨raw,rk,sz,en⟩:=QM hd (I.hok a _ hq)
   obtain⟨f0,f1,f2,f3,f4,f5⟩:=hf it (by simp)
   have hi':i<es.size:=by omega
   refine Zh st.1 raw hi' fun h' st' sb=>?_
   have I1:Inv X pins σ H { s with heap:=h' }:=I.turned (t':=s.toks) (fun b o hb e=>(sb.2 b hb).trans e) f0 f1 f3 f4 f5
   obtain⟨ob,e,c,d⟩:=id st'
   have hk:(kvs.map fun p=>oV p.1)[i]? = some ((kvs.map fun p=>oV p.1)[i]'(by rw [List.length_map];exact hi)):=List.getElem?_eq_getElem _
   obtain⟨u,hu,ru⟩:=rk.get hk
   have eu:u=es[i].key:=by
     rw [List.getElem?_map,Array.getElem?_toList,Array.getElem?_eq_getElem hi'] at hu
     exact (Option.some.inj hu).symm
   subst eu
   exact⟨_,rfl,XF (s:={ s with heap:=h' }) e c d (by decide) ⟨_,H,I1,ru,⟨rfl,fun kvs' hy=>by rw [← en.uniq hy];exact hk⟩,⟨st',hi'⟩,fun b hb=>(hf b hb).1⟩⟩
 done:=by
   intro X hP hw hK hc i pins s σ H E I hf st hg
   subst hP hw hK
   obtain⟨kvs,hq,_,hi⟩:=hg
   obtain⟨raw,rk,sz,_⟩:=QM hd (I.hok a _ hq)
   obtain⟨f0,f1,f2,f3,f4,f5⟩:=hf it (by simp)
   obtain⟨st,hle⟩:=st
   have:i=es.size:=by omega
   subst this
   exact abZ (I.ok.hd hc) st raw fun h' eb=>⟨rfl,I.turned (t':=s.toks) (fun b o hb e=>eb b o hb e) f0 f1 f3 f4 f5⟩
 self:=fun _ _ _ _ _ st h=>wpAny_pyIter_keyiter st.1 h
section
variable {X:Cx}{tg:Expr}
def ZC (P:Program) (w:World) (tl:TE):TI:=fun σ H R=>tl σ H fun x H1=>∃ a kvs,x=.ref a∧Rd H1 a (dO P w a kvs)∧∀ o,wQ P w o kvs→R (aeA P w a o) (upd H1 a (.jG o (dO P w a kvs)))
theorem ZD {l:Expr}{tl:TE} (hl:PE X l tl):PI X tg l (ZC X.prog X.w tl):=by
 intro pins s σ H R I h
 refine fM (hl pins s σ H _ I h) fun v s1 zq=>?_
 obtain⟨x,H1,I1,r1,q1⟩:=zq
 obtain⟨a,kvs,e,hq,q⟩:=q1
 subst e
 cases r1
 obtain⟨hz,hS,vs,rv,o,es,ep,ho,hx,hdat,hk,hp,hn⟩:=QJ I1.hok hq
 have hm:Er s1.heap a es ep:=⟨o,ho,hx,hdat⟩
 have I2:Inv X pins σ (upd H1 a (.jG o (dO X.prog X.w a kvs))) s1:=by
   have ok:bw X.prog X.w (upd H1 a (.jG o (dO X.prog X.w a kvs))) s1.heap a (.jG o (dO X.prog X.w a kvs)):=⟨ho,QH hz hS rv ⟨o,es,ep,ho,hx,hdat,hk,hp,hn⟩⟩
   rcases hq with hq | ⟨o',hq⟩
   · exact I1.write (x:=a) (e:=a) (t':=s1.toks) (h':=s1.heap) (by rw [hq];exact True.intro) (.inl rfl) (fun b u _ z=>z) ⟨_,ho⟩ ok
   · obtain⟨e',_⟩:=(show bw X.prog X.w H1 s1.heap a (.jG o' (dO X.prog X.w a kvs)) from I1.hok a _ hq)
     rw [ho] at e';cases e'
     rw [Ab hq];exact I1
 refine Zg hS hm ?_
 refine⟨s1.heap.objs.size,[s1.heap.objs.size],_,_,_,rfl,I2.kept (t':=s1.toks) fun b o e=>Heap.get?_push_of_some _ e,Th hdat,⟨⟨_,Heap.get?_push_size _ rfl,rfl,rfl⟩,Nat.zero_le _⟩,fun b hb=>?_,q o ⟨es,ep,vs,hdat,hp,rv⟩⟩
 have e:b=s1.heap.objs.size:=by simpa using hb
 subst e
 exact I2.Hd (Nat.le_refl _) (I2.hok.fresh (Nat.le_refl _))
end
theorem Ti {P:Program}{w:World}{a:Addr}{o:Obj}{kvs:List (Option Key × V)}{tc:TT}{te:TE}{σ:St}{H:Hp}{Q:VK} (en:wQ P w o kvs) (hz:kvs.length≤sizeLine) (W:Nat→List V→Hp→Prop) (h0:W 0 [] H) (hq:∀ i ys H,W i ys H→H a=some (.jG o (dO P w a kvs)))
   (hs:∀ i x ys H,kvs[i]? = some x→ys.length≤i→W i ys H→tc (some (oV x.1)::σ) H fun c H3=>if c=true then te (some (oV x.1)::σ) H3 fun z H4=>W (i+1) (ys++[z]) H4 else W (i+1) ys H3)
   (hd:∀ ys H,W kvs.length ys H→∀ p,H p=none→Q (.ref p) (upd H p (.lst ys))):S8 (aeA P w a o) tc te σ H Q:=by
 refine⟨kvs.length,W,hz,h0,fun i ys H hi hl hw=>?_⟩
 have q:=hq i ys H hw
 by_cases hlt:i<kvs.length
 · refine .inr ⟨⟨kvs,q,en,hlt⟩,hlt,fun v H' y=>?_⟩
   obtain⟨rfl,e1⟩:=y
   have hx:kvs[i]? = some kvs[i]:=List.getElem?_eq_getElem hlt
   have e2:=e1 kvs en
   rw [List.getElem?_map,hx] at e2
   cases e2
   exact hs i _ ys _ hx hl hw
 · have e:i=kvs.length:=by omega
   subst e
   exact .inl ⟨⟨kvs,q,en,Nat.le_refl _⟩,hd ys H hw⟩
end L2
namespace L2
open PySem PySem.Spec PySem.Calls PySem.W PyProof.Rows
section
variable {X:Cx}{pos:Pos}{P:Program}{w:World}
theorem ZF (hp:X.prog=P) (hw:X.w=w):PE X (.Dict [] [] pos) (Zu P w):=by subst hp hw;exact Zv
theorem Wv (hp:X.prog=P) (hw:X.w=w) {ke ve:Expr}{tk tv:TE} (hk:PE X ke tk) (hv:PE X ve tv):PE X (.Dict [some ke] [ve] pos) (Zw P w tk tv):=by subst hp hw;exact Zx hk hv
theorem ZG (hp:X.prog=P) (hw:X.w=w) {o i value:Expr}{td ty tv:TE}{pos':Pos} (ho:PE X o td) (hi:PE X i ty) (hv:PE X value tv) (hs:swapsWith value (some (.Subscript o i pos')) pos.line X.env=pure false) :
   PS X (.Assign [.Subscript o i pos'] value pos) (Zy P w td ty tv):=by subst hp hw;exact Zz ho hi hv hs
theorem Ww (hp:X.prog=P) (hw:X.w=w) {o e f:Expr}{apos cpos:Pos}{td ty tx:TE} (ho:PE X o td) (he:PE X e ty) (hf:PE X f tx) (m:M2 X o "get" apos e f cpos):PE X (.Call (.Attribute o "get" apos) [e,f] [] cpos) (Vh P w td ty tx):=by subst hp hw;exact Wt ho he hf m
theorem Wx {o:Expr}{to:TE}{apos cpos tp:Pos}{elts:List Expr}{x1:Nat} (hp:X.prog=P) (hw:X.w=w) (ho:PE X o to) (hbase:attributeBase o "items" X.env (eval o X.env)=eval o X.env:=by rfl) (hline:(apos.endLine == cpos.line)=true:=by rfl) :
   PI X (.Tuple elts x1 tp) (.Call (.Attribute o "items" apos) [] [] cpos) (Vk P w to):=by subst hp hw;exact Wu ho hbase hline
theorem ZJ {tg:Expr} (hp:X.prog=P) (hw:X.w=w) {l:Expr}{tl:TE} (hl:PE X l tl):PI X tg l (ZC P w tl):=by subst hp hw;exact ZD hl
end
section
variable {X:Cx}{CX:Nr}{k:Nat}{E:XK}{m:Str}{pos apos:Pos}{o:Expr}{ta:TE}{P:Program}{w:World}{K:PySem.W.Frag}{mg:Str→Option Value}{base:Heap}
def aeB (P:Program) (w:World) (K:PySem.W.Frag) (mg:Str→Option Value) (base:Heap) (CX:Nr) (k:Nat) (m:Str) (E:XK) (ta:TE):TE:=fun σ H Q=>ta σ H fun x H1=>∃ (a C dx:Addr) (fs:List (Str × V)) (M:jg P w K mg base CX k C m),x=.ref a∧H1 a=some (.ins C dx fs)∧fs.lookup m=none∧M.sp (x::M.vR) H1 Q E
theorem Wz {pl:Sem Bool} (hP:X.prog=P) (hw:X.w=w) (hK:X.K=K) (hg:X.mg=mg) (hb:X.base=base) (hr:gK k X.A) (hx:Passes CX X E) (he:PE X o ta)
   (ht:eval (.Call (.Attribute o m apos) [] [] pos) X.env=(do
     let ov ← eval o X.env
     standAt apos.atName
     let (f,first) ← holding [ov] (getMethod ov m pl)
     callWith pos f first (backTo pos (starEach [] X.env)) (backToKw pos (keywordEach [] X.env))):=by rfl) :
   PE X (.Call (.Attribute o m apos) [] [] pos) (aeB P w K mg base CX k m E ta):=by
 subst hP hw hK hg hb
 exact xU hr hx he ht
end
end L2
namespace L2
open PySem PySem.Spec PyProof.Rows PySem.Calls
section
variable {X:Cx}{ea tg:Expr}{t:TA}{p pos:Pos}
end
section
variable {X:Cx}
end
end L2
namespace L2
open PySem PySem.Spec PyProof.Rows
def HH (l:List Nat):List Nat:=List.replicate (3 - l.length) 48++l
def gO (n:Int):List Nat:=HH (dig n.natAbs)
def sgn (n:Int):List Nat:=if n<0 then [45] else []
def J9 (n:Int):List Nat:=sgn n++((gO n).take ((gO n).length - 2)++46::(gO n).drop ((gO n).length - 2))
def isF (c:Nat):Prop:=48≤c∧c≤57
theorem Ad (l:List Nat):3≤(HH l).length∧(HH l).length=max 3 l.length:=by
 unfold HH;rw [List.length_append,List.length_replicate];omega
theorem HJ {n:Int}{c:Nat} (h:c∈gO n):isF c:=by
 unfold gO HH at h
 rcases List.mem_append.mp h with h | h
 · rw [(List.mem_replicate.mp h).2];exact⟨by decide,by decide⟩
 · exact NZ h
theorem WD {n:Int} (h:(gO n).head? = some 48):(gO n).length=3:=by
 have hl:=(Ad (dig n.natAbs)).2
 by_cases h3:(dig n.natAbs).length≤3
 · show (HH _).length=3;omega
 · exfalso
   have e:gO n=dig n.natAbs:=by unfold gO HH;rw [show 3 - (dig n.natAbs).length=0 by omega];rfl
   rw [e] at h
   by_cases h0:n.natAbs=0
   · rw [h0,Y0] at h3;simp at h3
   · obtain⟨c,r,ec,hc,_⟩:=YZ h0
     rw [ec] at h
     have:c=48:=by simpa using h
     omega
theorem M5 (n:Int):∃ a x y,J9 n=sgn n++(a++[46,x,y])∧gO n=a++[x,y]∧a≠[]∧(∀ c∈a,isF c)∧isF x∧isF y∧(a.head? = some 48→a=[48]):=by
 have hl:3≤(gO n).length:=(Ad _).1
 have hd:((gO n).drop ((gO n).length - 2)).length=2:=by rw [List.length_drop];omega
 obtain⟨x,y,e⟩:∃ x y,(gO n).drop ((gO n).length - 2)=[x,y]:=by
   match h:(gO n).drop ((gO n).length - 2),hd with
   | [x,y],_=>exact⟨x,y,rfl⟩
 have ea:gO n=(gO n).take ((gO n).length - 2)++[x,y]:=by rw [← e,List.take_append_drop]
 have ht:((gO n).take ((gO n).length - 2)).length=(gO n).length - 2:=by rw [List.length_take];omega
 refine⟨(gO n).take ((gO n).length - 2),x,y,?_,ea,?_,fun c hc=>HJ (List.mem_of_mem_take hc),HJ (n:=n) (by rw [ea];simp),HJ (n:=n) (by rw [ea];simp),fun h=>?_⟩
 · unfold J9;rw [e]
 · intro z;rw [z] at ht;simp at ht;omega
 · have h1:(gO n).head? = some 48:=by
     rw [ea]
     cases hh:(gO n).take ((gO n).length - 2) with
     | nil=>rw [hh] at h;cases h
     | cons c r=>rw [hh] at h;exact h
   have h3:=WD h1
   rw [h3] at h ht ⊢
   match hh:(gO n).take (3 - 2),ht with
   | [c],_ =>
     rw [hh] at h
     have:c=48:=by simpa using h
     rw [this]
theorem ab4 {n:Int}{c:Nat} (h:c∈sgn n):c=45:=by unfold sgn at h;split at h;exact List.mem_singleton.mp h;cases h
theorem WK {n:Int}{c:Nat} (h:c∈J9 n):c=45∨c=46∨isF c:=by
 obtain⟨a,x,y,e,_,_,ha,hx,hy,_⟩:=M5 n
 rw [e] at h
 rcases List.mem_append.mp h with h | h
 · exact .inl (ab4 h)
 · rcases List.mem_append.mp h with h | h
   · exact .inr (.inr (ha c h))
   · simp only [List.mem_cons,List.not_mem_nil,or_false] at h
     rcases h with h | h | h
     · exact .inr (.inl h)
     · rw [h];exact .inr (.inr hx)
     · rw [h];exact .inr (.inr hy)
theorem ZK {n:Int} (h:n.natAbs<10 ^ 60):Hu 65 (S (J9 n)):=by
 refine⟨?_,fun c hc=>?_⟩
 · obtain⟨a,x,y,e,ef,_⟩:=M5 n
   have hl:=(Ad (dig n.natAbs)).2
   have hd:=NT (k:=60) (by decide) h
   have e3:=congrArg List.length ef
   rw [List.length_append] at e3
   have e4:(gO n).length=(HH (dig n.natAbs)).length:=rfl
   rw [uy,e,List.length_append,List.length_append]
   have e5:(sgn n).length≤1:=by unfold sgn;split <;> simp
   simp only [List.length_cons,List.length_nil] at e3 ⊢
   omega
 · rw [En] at hc
   rcases WK hc with z | z | z
   · omega
   · omega
   · unfold isF at z;omega
end L2
namespace lV
open PySem L2
def top (i:Nat):Stmt:=PySem.Challenge.pw_askpaper_k33_names_that_suit.main.body.getD i (.Pass ⟨0,0,0,0⟩)
abbrev aZ:Stmt:=inClass (top 6) 0
abbrev aR:Stmt:=inClass (top 7) 0
abbrev dB:Stmt:=top 26
abbrev bU:Stmt:=inClass (top 28) 0
abbrev bF:Stmt:=inClass (top 29) 0
abbrev cM:Stmt:=inClass (top 29) 1
abbrev aU:Stmt:=inClass (top 29) 2
abbrev cN:Stmt:=inClass (top 29) 4
abbrev cO:Stmt:=inClass (top 29) 6
abbrev bV:Stmt:=inClass (top 30) 2
abbrev bG:Stmt:=inClass (top 30) 5
abbrev cQ:Stmt:=inClass (top 30) 6
abbrev bW:Stmt:=inClass (top 31) 1
abbrev cR:Stmt:=inClass (top 31) 2
abbrev bY:Stmt:=inClass (top 32) 0
abbrev dC:Stmt:=inClass (top 32) 1
abbrev bc:Stmt:=inClass (top 32) 2
abbrev dD:Stmt:=inClass (top 32) 4
abbrev dF:Stmt:=inClass (top 32) 6
abbrev bH:Stmt:=inClass (top 33) 0
abbrev cT:Stmt:=inClass (top 33) 6
abbrev cU:Stmt:=inClass (top 35) 0
abbrev bR:Stmt:=inClass (top 36) 0
abbrev bI:Stmt:=inClass (top 37) 0
abbrev bJ:Stmt:=inClass (top 38) 0
abbrev bK:Stmt:=inClass (top 39) 0
abbrev gf:Stmt:=top 41
abbrev gh:Stmt:=top 42
abbrev cV:Stmt:=top 43
abbrev dG:Stmt:=top 44
abbrev bL:Stmt:=top 45
abbrev eO:Stmt:=top 46
abbrev gj:Stmt:=top 47
abbrev cX:Stmt:=top 48
abbrev bZ:Stmt:=top 49
abbrev b7:Stmt:=top 50
abbrev b8:Stmt:=top 51
abbrev gU:Stmt:=top 52
abbrev cg:Stmt:=top 53
abbrev bM:Stmt:=inClass (top 54) 0
abbrev aK:Stmt:=inClass (top 54) 1
abbrev aV:Stmt:=inClass (top 54) 2
abbrev aC:Stmt:=inClass (top 54) 3
abbrev aL:Stmt:=inClass (top 54) 4
abbrev aF:Stmt:=inClass (top 54) 5
abbrev aJ:Stmt:=inClass (top 54) 6
abbrev bN:Stmt:=top 55
abbrev gW:Stmt:=top 56
abbrev cY:Stmt:=inClass (top 60) 0
abbrev dY:Stmt:=inClass (top 60) 2
abbrev cZ:Stmt:=inClass (top 60) 3
abbrev bf:Stmt:=inClass (top 61) 0
abbrev bx:Stmt:=inClass (top 61) 2
abbrev aW:Stmt:=inClass (top 61) 3
abbrev dg:Stmt:=inClass (top 62) 0
abbrev dH:Stmt:=inClass (top 62) 2
abbrev cj:Stmt:=inClass (top 63) 0
abbrev dh:Stmt:=inClass (top 63) 2
abbrev gm:Stmt:=top 67
abbrev gn:Stmt:=top 68
abbrev eQ:Stmt:=top 69
abbrev eU:Stmt:=top 70
abbrev eV:Stmt:=top 71
abbrev eY:Stmt:=top 72
abbrev gq:Stmt:=top 73
abbrev gr:Stmt:=top 74
abbrev gY:Stmt:=top 75
abbrev dZ:Stmt:=top 76
abbrev gw:Stmt:=top 77
abbrev eZ:Stmt:=top 78
abbrev Ae:Stmt:=top 79
set_option genInjectivity false
set_option genSizeOf false
structure dq where
 jw:Addr
 jx:FuncData
 iC:Addr
 iD:FuncData
 lG:Addr
 qe:FuncData
 gP:Addr
 mz:FuncData
 j7:Addr
 j8:FuncData
 nT:Addr
 nU:FuncData
 iY:Addr
 iZ:FuncData
 nW:Addr
 nY:FuncData
 nZ:Addr
 n6:FuncData
 mC:Addr
 mD:FuncData
 iJ:Addr
 j9:FuncData
 n8:Addr
 oh:FuncData
 mF:Addr
 mG:FuncData
 ou:Addr
 oA:FuncData
 mH:Addr
 mJ:FuncData
 qg:Addr
 qi:FuncData
 jy:Addr
 jz:FuncData
 qj:Addr
 ql:FuncData
 qm:Addr
 qp:FuncData
 kh:Addr
 kj:FuncData
 Af:List Value
 oE:Addr
 oF:FuncData
 oG:Addr
 oH:FuncData
 oJ:Addr
 jK:FuncData
 mK:List Value
 km:Addr
 kE:FuncData
 jL:List Value
 kI:Addr
 kJ:FuncData
 kW:Addr
 kY:FuncData
 rP:Addr
 wR:FuncData
 oK:Addr
 rQ:FuncData
 jM:Addr
 oM:FuncData
 lH:Addr
 qu:FuncData
 iK:Addr
 kZ:FuncData
 pJ:Addr
 uC:FuncData
 rR:Addr
 wU:FuncData
 jN:Addr
 oN:FuncData
 jl:Addr
 mL:FuncData
 jm:Addr
 mO:FuncData
 jn:Addr
 mQ:FuncData
 vK:Addr
 Bx:FuncData
 jo:Addr
 mR:FuncData
 lg:Addr
 lq:FuncData
 ig:Addr
 ik:FuncData
 jb:Addr
 jc:FuncData
 fu:Addr
 fB:FuncData
 il:Addr
 ir:FuncData
 gA:Addr
 gB:FuncData
 gF:Addr
 gG:FuncData
 iM:Addr
 lu:FuncData
 vL:Addr
 By:FuncData
 qw:Addr
 lJ:FuncData
 oO:List Value
 jO:Addr
 jP:FuncData
 oR:Addr
 oU:FuncData
 jA:Addr
 jB:FuncData
 fV:Addr
 fW:FuncData
 jd:Addr
 je:FuncData
 oW:Addr
 oX:FuncData
 jh:Addr
 ji:FuncData
 jq:Addr
 mU:FuncData
 fD:Addr
 gH:FuncData
 rT:Addr
 wV:FuncData
 rW:Addr
 wW:FuncData
 pK:Addr
 uD:FuncData
 pL:Addr
 uE:FuncData
 pM:Addr
 uF:FuncData
 pN:Addr
 uG:FuncData
 rY:Addr
 wX:FuncData
 rZ:Addr
 wY:FuncData
 vM:Addr
 BJ:FuncData
 m9:Addr
 su:FuncData
 sE:Addr
 wZ:FuncData
 pO:Addr
 uH:FuncData
 ZL:Addr
 ZM:FuncData
 qO:Addr
 pP:Addr
 jC:Addr
 w5:Addr
 jQ:Addr
 fc:Addr
 oY:Addr
 vW:Addr
 ZP:Addr
 d7:Addr
 cz:Addr
 Oa:Addr
 HN:Addr
 sI:Addr
 avK:Addr
 jr:Addr
 bT:Addr
 dm:Addr
 Tj:Addr
 adh:Addr
 aiU:Addr
 jR:Addr
 Ob:Addr
 aM:Addr
 bQ:Addr
 aB:Addr
 aP:Addr
structure Txt (K:W.Frag) (mg:Str→Option Value) (A:dq):Prop where
 w6:iu K "__init__" "Unknown.__init__" aZ A.jw A.jx
 jD:Binds K A.jx ["self","name"] []
 uI:iu K "__init__" "WrongKind.__init__" aR A.iC A.iD
 d9:Binds K A.iD ["self","name"] []
 Ka:iu K "money_shown" "money_shown" dB A.lG A.qe
 Kc:Binds K A.qe ["hundredths"] []
 Ke:W.keepIn K (.ref A.lG)=true
 Kf:mg "money_shown" = some (.ref A.lG)
 Es:iu K "__init__" "Kind.__init__" bU A.gP A.mz
 gQ:Binds K A.mz ["self","low","high"] []
 BK:iu K "__init__" "YesNo.__init__" bF A.j7 A.j8
 qP:Binds K A.j8 ["self"] []
 HQ:iu K "fits" "YesNo.fits" cM A.nT A.nU
 HR:Binds K A.nU ["self","thing"] []
 vX:iu K "answer_of" "YesNo.answer_of" aU A.iY A.iZ
 vY:Binds K A.iZ ["self","text"] []
 HS:iu K "rank" "YesNo.rank" cN A.nW A.nY
 HW:Binds K A.nY ["self","answer"] []
 HX:iu K "told" "YesNo.told" cO A.nZ A.n6
 HY:Binds K A.n6 ["self"] []
 Et:iu K "shown" "Whole.shown" bV A.mC A.mD
 Eu:Binds K A.mD ["self","answer"] []
 BL:iu K "bounds" "Whole.bounds" bG A.iJ A.j9
 qQ:Binds K A.j9 ["self"] []
 Ia:iu K "told" "Whole.told" cQ A.n8 A.oh
 Ib:Binds K A.oh ["self"] []
 Ew:iu K "shown" "Money.shown" bW A.mF A.mG
 Ex:Binds K A.mG ["self","answer"] []
 Ie:iu K "told" "Money.told" cR A.ou A.oA
 Ig:Binds K A.oA ["self"] []
 Ey:iu K "__init__" "Pick.__init__" bY A.mH A.mJ
 Ez:Binds K A.mJ ["self","words"] []
 Kg:iu K "fits" "Pick.fits" dC A.qg A.qi
 Kh:Binds K A.qi ["self","thing"] []
 xf:iu K "answer_of" "Pick.answer_of" bc A.jy A.jz
 xg:Binds K A.jz ["self","text"] []
 Kl:iu K "rank" "Pick.rank" dD A.qj A.ql
 Km:Binds K A.ql ["self","answer"] []
 Ko:iu K "told" "Pick.told" dF A.qm A.qp
 Kq:Binds K A.qp ["self"] []
 BP:Hs K "__init__" "Names.__init__" bH A.Af A.kh A.kj
 BR:Binds K A.kj ["self","most"] []
 Ih:iu K "told" "Names.told" cT A.oE A.oF
 Ii:Binds K A.oF ["self"] []
 Ij:iu K "__init__" "Row.__init__" cU A.oG A.oH
 uJ:Binds K A.oH ["self","name"] []
 Ik:Hs K "__init__" "Ask.__init__" bR A.mK A.oJ A.jK
 Il:Binds K A.jK ["self","name","kind","when"] []
 EY:Binds K A.jK ["self","name","kind","when"] A.mK
 Fb:Vals [.non] A.mK
 BV:Hs K "__init__" "Check.__init__" bI A.jL A.km A.kE
 pQ:Binds K A.kE ["self","name","test","firm"] A.jL
 pR:Vals [(.bl true)] A.jL
 BW:iu K "__init__" "Sheet.__init__" bJ A.kI A.kJ
 qR:Binds K A.kJ ["self","name","each","rows","ways"] []
 BX:iu K "__init__" "Paper.__init__" bK A.kW A.kY
 BZ:Binds K A.kY ["self","name","sheets","totals"] []
 Tn:iu K "kinds_of" "kinds_of" gf A.rP A.wR
 Tp:Binds K A.wR ["paper"] []
 Tq:W.keepIn K (.ref A.rP)=true
 Tr:mg "kinds_of" = some (.ref A.rP)
 Tu:iu K "gathered" "gathered" gh A.oK A.rQ
 Im:Binds K A.rQ ["totals","name","known"] []
 Io:W.keepIn K (.ref A.oK)=true
 Ip:mg "gathered" = some (.ref A.oK)
 Ir:iu K "questions_of" "questions_of" cV A.jM A.oM
 Iu:Binds K A.oM ["paper","name"] []
 Iv:W.keepIn K (.ref A.jM)=true
 Iw:mg "questions_of" = some (.ref A.jM)
 Kr:iu K "names_given" "names_given" dG A.lH A.qu
 Ks:Binds K A.qu ["paper"] []
 Ku:W.keepIn K (.ref A.lH)=true
 Kv:mg "names_given" = some (.ref A.lH)
 Ca:iu K "look_for_twice" "look_for_twice" bL A.iK A.kZ
 Cd:Binds K A.kZ ["paper"] []
 Ce:W.keepIn K (.ref A.iK)=true
 Cg:mg "look_for_twice" = some (.ref A.iK)
 QQ:iu K "saying_of" "saying_of" eO A.pJ A.uC
 Dv:Binds K A.uC ["row"] []
 Dw:W.keepIn K (.ref A.pJ)=true
 Dy:mg "saying_of" = some (.ref A.pJ)
 Tv:iu K "atoms_of" "atoms_of" gj A.rR A.wU
 Iz:Binds K A.wU ["saying"] []
 IK:W.keepIn K (.ref A.rR)=true
 IV:mg "atoms_of" = some (.ref A.rR)
 IW:iu K "look_at_each" "look_at_each" cX A.jN A.oN
 Ja:Binds K A.oN ["each","kinds"] []
 Jb:W.keepIn K (.ref A.jN)=true
 Jc:mg "look_at_each" = some (.ref A.jN)
 Fd:iu K "look_at_atoms" "look_at_atoms" bZ A.jl A.mL
 tM:Binds K A.mL ["saying","kinds","totals"] []
 tO:W.keepIn K (.ref A.jl)=true
 tQ:mg "look_at_atoms" = some (.ref A.jl)
 Fe:iu K "look_at_parts" "look_at_parts" b7 A.jm A.mO
 Ff:Binds K A.mO ["parts","kinds","totals"] []
 Fg:W.keepIn K (.ref A.jm)=true
 Fi:mg "look_at_parts" = some (.ref A.jm)
 Fj:iu K "look_at_names" "look_at_names" b8 A.jn A.mQ
 Fl:Binds K A.mQ ["paper"] []
 Fo:W.keepIn K (.ref A.jn)=true
 Fp:mg "look_at_names" = some (.ref A.jn)
 WL:iu K "sums_in" "sums_in" gU A.vK A.Bx
 WM:Binds K A.Bx ["parts","totals"] []
 WN:W.keepIn K (.ref A.vK)=true
 WQ:mg "sums_in" = some (.ref A.vK)
 Fq:iu K "look_for_ring" "look_for_ring" cg A.jo A.mR
 Ft:Binds K A.mR ["paper"] []
 Fv:W.keepIn K (.ref A.jo)=true
 Fw:mg "look_for_ring" = some (.ref A.jo)
 Ci:iu K "__init__" "Reach.__init__" bM A.lg A.lq
 Cj:Binds K A.lq ["self","paper"] []
 tY:iu K "comes_again" "Reach.comes_again" aK A.ig A.ik
 tZ:Binds K A.ik ["self","question"] []
 vZ:iu K "is_within" "Reach.is_within" aV A.jb A.jc
 v5:Binds K A.jc ["self","question","here"] []
 oZ:iu K "reaches_question" "Reach.reaches_question" aC A.fu A.fB
 o4:Binds K A.fB ["self","question","here"] []
 t7:iu K "reaches_sum" "Reach.reaches_sum" aL A.il A.ir
 t8:Binds K A.ir ["self","name","here"] []
 qx:iu K "look_at_saying" "Reach.look_at_saying" aF A.gA A.gB
 qy:Binds K A.gB ["self","saying","here"] []
 qT:iu K "look_at_sheet" "Reach.look_at_sheet" aJ A.gF A.gG
 qU:Binds K A.gG ["self","place"] []
 Ck:iu K "look_for_reach" "look_for_reach" bN A.iM A.lu
 Cm:Binds K A.lu ["paper"] []
 Cp:W.keepIn K (.ref A.iM)=true
 Cq:mg "look_for_reach" = some (.ref A.iM)
 WR:iu K "look_at" "look_at" gW A.vL A.By
 WT:Binds K A.By ["paper"] []
 WW:W.keepIn K (.ref A.vL)=true
 WX:mg "look_at" = some (.ref A.vL)
 Kw:Hs K "__init__" "Is.__init__" cY A.oO A.qw A.lJ
 Ky:Binds K A.lJ ["self","name","word","place"] []
 uK:Binds K A.lJ ["self","name","word","place"] A.oO
 uL:Vals [.non] A.oO
 Oc:iu K "atoms" "Is.atoms" dY A.jO A.jP
 Od:Binds K A.jP ["self"] []
 Jd:iu K "settled" "Is.settled" cZ A.oR A.oU
 Je:Binds K A.oU ["self","kinds"] []
 xj:iu K "__init__" "Compare.__init__" bf A.jA A.jB
 o5:Binds K A.jB ["self","name","how","number"] []
 Ag:iu K "atoms" "Compare.atoms" bx A.fV A.fW
 Ah:Binds K A.fW ["self"] []
 v7:iu K "settled" "Compare.settled" aW A.jd A.je
 v9:Binds K A.je ["self","kinds"] []
 Jf:iu K "__init__" "Not.__init__" dg A.oW A.oX
 uM:Binds K A.oX ["self","test"] []
 Kz:iu K "atoms" "Not.atoms" dH A.jh A.ji
 KC:Binds K A.ji ["self"] []
 Fx:iu K "__init__" "Pair.__init__" cj A.jq A.mU
 tR:Binds K A.mU ["self","one","other"] []
 Jg:iu K "atoms" "Pair.atoms" dh A.fD A.gH
 uN:Binds K A.gH ["self"] []
 Tw:iu K "_law_cell" "_law_cell" gm A.rT A.wV
 fG:Binds K A.wV ["_law_script","_law_k"] []
 fH:W.keepIn K (.ref A.rT)=true
 fJ:mg "_law_cell" = some (.ref A.rT)
 Tz:iu K "_law_name" "_law_name" gn A.rW A.wW
 cD:Binds K A.wW ["_law_script","_law_k"] []
 cG:W.keepIn K (.ref A.rW)=true
 cH:mg "_law_name" = some (.ref A.rW)
 QR:iu K "_law_alone" "_law_alone" eQ A.pK A.uD
 QS:Binds K A.uD ["_law_e"] []
 QT:W.keepIn K (.ref A.pK)=true
 QV:mg "_law_alone" = some (.ref A.pK)
 QW:iu K "_law_fault" "_law_fault" eU A.pL A.uE
 Dz:Binds K A.uE ["_law_paper"] []
 DG:W.keepIn K (.ref A.pL)=true
 DK:mg "_law_fault" = some (.ref A.pL)
 QX:iu K "_law_kinds" "_law_kinds" eV A.pM A.uF
 QZ:Binds K A.uF ["_law_script"] []
 Q0:W.keepIn K (.ref A.pM)=true
 Q3:mg "_law_kinds" = some (.ref A.pM)
 Q4:iu K "_law_named" "_law_named" eY A.pN A.uG
 uO:Binds K A.uG ["_law_script","_law_cell_here"] []
 uP:W.keepIn K (.ref A.pN)=true
 uQ:mg "_law_named" = some (.ref A.pN)
 TF:iu K "_law_atom" "_law_atom" gq A.rY A.wX
 Jh:Binds K A.wX ["_law_script","_law_cell_here"] []
 Ji:W.keepIn K (.ref A.rY)=true
 Jj:mg "_law_atom" = some (.ref A.rY)
 TQ:iu K "_law_what" "_law_what" gr A.rZ A.wY
 xm:Binds K A.wY ["_law_kinds_here","_law_script","_law_name_here"] []
 xn:W.keepIn K (.ref A.rZ)=true
 xq:mg "_law_what" = some (.ref A.rZ)
 WY:iu K "_law_due" "_law_due" gY A.vM A.BJ
 W0:Binds K A.BJ ["_law_kinds_here","_law_script","_law_atom_here"] []
 W2:W.keepIn K (.ref A.vM)=true
 W3:mg "_law_due" = some (.ref A.vM)
 Oe:iu K "_law_saying" "_law_saying" dZ A.m9 A.su
 Og:Binds K A.su ["_law_atoms","_law_cell_here"] []
 Oh:W.keepIn K (.ref A.m9)=true
 Oi:mg "_law_saying" = some (.ref A.m9)
 TV:iu K "_law_each" "_law_each" gw A.sE A.wZ
 TX:Binds K A.wZ ["_law_script","_law_kinds_here"] []
 TY:W.keepIn K (.ref A.sE)=true
 T3:mg "_law_each" = some (.ref A.sE)
 Q5:iu K "_law_parts" "_law_parts" eZ A.pO A.uH
 Q6:Binds K A.uH ["_law_script","_law_kinds_here"] []
 Q7:W.keepIn K (.ref A.pO)=true
 Q8:mg "_law_parts" = some (.ref A.pO)
 adi:iu K "law" "law" Ae A.ZL A.ZM
 aiV:mg "law" = some (.ref A.ZL)
 Cr:mg "WRITTEN_TRUTHS" = some (.ref A.qO)
 Cu:aep K A.qO [("yes",true),("no",false)]
 Oj:mg "ValueError" = none
 aiW:mg "abs" = none
 ZQ:mg "bool" = none
 Ol:mg "dict" = none
 iG:mg "enumerate" = none
 M6:mg "int" = none
 aD:mg "isinstance" = none
 Ai:mg "len" = none
 Jk:mg "list" = none
 GQ:mg "range" = none
 Q9:mg "str" = none
 Fy:W.kitOne K (.type "NoneType") (.type "bool")=some false
 Ra:W.kitOne K (.type "bool") (.type "bool")=some true
 W4:W.kitOne K (.type "str") (.type "str")=some true
 adk:mg "Ask" = some (.ref A.pP)
 ZR:pH mg "Ask" (.ref A.pP)
 xx:mg "AskError" = some (.ref A.jC)
 T4:pH mg "AskError" (.ref A.jC)
 aeC:mg "Both" = some (.ref A.w5)
 Vl:mg "Check" = some (.ref A.jQ)
 M7:mg "Compare" = some (.ref A.fc)
 ZS:mg "Either" = some (.ref A.oY)
 aeD:mg "Is" = some (.ref A.vW)
 avL:pH mg "Is" (.ref A.vW)
 T5:mg "Kind" = some (.ref A.ZP)
 ab5:mg "Money" = some (.ref A.d7)
 ab6:mg "Names" = some (.ref A.cz)
 Vm:pH mg "Names" (.ref A.cz)
 Vn:pH mg "NoWay" (.ref A.Oa)
 adl:mg "Not" = some (.ref A.HN)
 Aj:pH mg "OutOfReach" (.ref A.sI)
 ab7:mg "Paper" = some (.ref A.jr)
 aeE:mg "Pick" = some (.ref A.bT)
 ZV:pH mg "Pick" (.ref A.bT)
 ab8:mg "Reach" = some (.ref A.dm)
 aeF:pH mg "Ring" (.ref A.Tj)
 adm:mg "Row" = some (.ref A.adh)
 Vo:mg "Sheet" = some (.ref A.jR)
 Vp:pH mg "Twice" (.ref A.Ob)
 Cv:mg "Unknown" = some (.ref A.aM)
 M8:pH mg "Unknown" (.ref A.aM)
 ab9:mg "Whole" = some (.ref A.bQ)
 aca:pH mg "Whole" (.ref A.bQ)
 lW:mg "WrongKind" = some (.ref A.aB)
 DN:pH mg "WrongKind" (.ref A.aB)
 Vq:mg "YesNo" = some (.ref A.aP)
 acb:pH mg "YesNo" (.ref A.aP)
 sO:MkX K A.aM A.jw
 gC:rM K A.aM
 Fz:N8 K A.aM "name"
 FJ:Hx K A.aM "name"
 iQ:MkX K A.aB A.iC
 dI:rM K A.aB
 Ak:N8 K A.aB "name"
 Al:Hx K A.aB "name"
 DP:ade K A.jC
 wg:W.exmOne K (.ref A.aM) (.ref A.jC)=some true
 uc:W.exmOne K (.ref A.aB) (.ref A.jC)=some true
 qW:W.kitOne K (.ref A.aM) (.ref A.Ob)=some false
 o6:W.kitOne K (.ref A.aM) (.ref A.aM)=some true
 uR:W.kitOne K (.ref A.aM) (.ref A.aB)=some false
 Cw:W.kitOne K (.ref A.aM) (.ref A.Oa)=some false
 FN:W.kitOne K (.ref A.aM) (.ref A.Tj)=some false
 ud:W.kitOne K (.ref A.aM) (.ref A.sI)=some false
 wj:W.kitOne K (.ref A.aM) (.ref A.jC)=some true
 o7:W.kitOne K (.ref A.aB) (.ref A.Ob)=some false
 lX:W.kitOne K (.ref A.aB) (.ref A.aM)=some false
 jT:W.kitOne K (.ref A.aB) (.ref A.aB)=some true
 yc:W.kitOne K (.ref A.aB) (.ref A.Oa)=some false
 Am:W.kitOne K (.ref A.aB) (.ref A.Tj)=some false
 qX:W.kitOne K (.ref A.aB) (.ref A.sI)=some false
 ue:W.kitOne K (.ref A.aB) (.ref A.jC)=some true
 yd:W.kitOne K (.ref A.pP) (.ref A.pP)=some true
 sS:W.kitOne K (.ref A.jQ) (.ref A.pP)=some false
 ZW:W.kitOne K (.ref A.vW) (.ref A.vW)=some true
 KH:W.kitOne K (.ref A.fc) (.ref A.vW)=some false
 Jl:W.kitOne K (.ref A.aP) (.ref A.aP)=some true
 KJ:W.kitOne K (.ref A.aP) (.ref A.bT)=some false
 Jm:W.kitOne K (.ref A.aP) (.ref A.bQ)=some false
 Jo:W.kitOne K (.ref A.aP) (.ref A.cz)=some false
 Jp:W.kitOne K (.ref A.bQ) (.ref A.aP)=some false
 KN:W.kitOne K (.ref A.bQ) (.ref A.bT)=some false
 Jq:W.kitOne K (.ref A.bQ) (.ref A.bQ)=some true
 Jr:W.kitOne K (.ref A.bQ) (.ref A.cz)=some false
 Js:W.kitOne K (.ref A.d7) (.ref A.aP)=some false
 KQ:W.kitOne K (.ref A.d7) (.ref A.bT)=some false
 Jt:W.kitOne K (.ref A.d7) (.ref A.bQ)=some true
 Ju:W.kitOne K (.ref A.d7) (.ref A.cz)=some false
 KY:W.kitOne K (.ref A.bT) (.ref A.aP)=some false
 Om:W.kitOne K (.ref A.bT) (.ref A.bT)=some true
 KZ:W.kitOne K (.ref A.bT) (.ref A.bQ)=some false
 K4:W.kitOne K (.ref A.bT) (.ref A.cz)=some false
 Jv:W.kitOne K (.ref A.cz) (.ref A.aP)=some false
 K5:W.kitOne K (.ref A.cz) (.ref A.bT)=some false
 Jw:W.kitOne K (.ref A.cz) (.ref A.bQ)=some false
 Jx:W.kitOne K (.ref A.cz) (.ref A.cz)=some true
 ye:W.kitOne K (.type "NoneType") (.ref A.aP)=some false
 An:W.kitOne K (.type "NoneType") (.ref A.bT)=some false
 sU:W.kitOne K (.ref A.aM) (.type "ValueError")=some true
 qz:W.kitOne K (.ref A.aB) (.type "ValueError")=some true
 qY:zg K A.aP
 ZX:∀ (H:Hp) (a dx:Addr) (fs:List (Str × V)),H a=some (.ins A.aP dx fs)→aH K H (.ref a) (.ref A.aP)
 Rb:Mk K A.aP A.j7
 K6:Meth K A.aP "told" A.nZ
 K7:Meth K A.aP "fits" A.nT
 yf:Meth K A.aP "answer_of" A.iY
 K8:Meth K A.aP "rank" A.nW
 Oo:aO K A.aP "low"
 K9:aO K A.aP "high"
 o8:zg K A.bQ
 ZZ:∀ (H:Hp) (a dx:Addr) (fs:List (Str × V)),H a=some (.ins A.bQ dx fs)→aH K H (.ref a) (.ref A.bQ)
 Z0:Mk K A.bQ A.gP
 Jy:Meth K A.bQ "shown" A.mC
 La:Meth K A.bQ "told" A.n8
 FP:Meth K A.bQ "bounds" A.iJ
 Ao:aO K A.bQ "low"
 wB:aO K A.bQ "high"
 o9:zg K A.d7
 Z1:∀ (H:Hp) (a dx:Addr) (fs:List (Str × V)),H a=some (.ins A.d7 dx fs)→aH K H (.ref a) (.ref A.d7)
 Z2:Mk K A.d7 A.gP
 Jz:Meth K A.d7 "shown" A.mF
 Lb:Meth K A.d7 "told" A.ou
 FQ:Meth K A.d7 "bounds" A.iJ
 Aq:aO K A.d7 "low"
 wC:aO K A.d7 "high"
 lK:zg K A.bT
 acd:∀ (H:Hp) (a dx:Addr) (fs:List (Str × V)),H a=some (.ins A.bT dx fs)→aH K H (.ref a) (.ref A.bT)
 ace:Mk K A.bT A.mH
 Oq:Meth K A.bT "told" A.qm
 Ot:Meth K A.bT "fits" A.qg
 Ar:Meth K A.bT "answer_of" A.jy
 Ou:Meth K A.bT "rank" A.qj
 Rc:aO K A.bT "low"
 Ov:aO K A.bT "high"
 lM:aO K A.bT "words"
 Av:zg K A.cz
 Z3:∀ (H:Hp) (a dx:Addr) (fs:List (Str × V)),H a=some (.ins A.cz dx fs)→aH K H (.ref a) (.ref A.cz)
 Z4:Mk K A.cz A.kh
 Ld:Meth K A.cz "told" A.oE
 Ow:aO K A.cz "low"
 wD:aO K A.cz "high"
 uT:zg K A.pP
 T6:∀ (H:Hp) (a dx:Addr) (fs:List (Str × V)),H a=some (.ins A.pP dx fs)→aH K H (.ref a) (.ref A.pP)
 Z5:Mk K A.pP A.oJ
 pU:aO K A.pP "name"
 DQ:aO K A.pP "kind"
 DR:aO K A.pP "when"
 uU:zg K A.jQ
 JB:∀ (H:Hp) (a dx:Addr) (fs:List (Str × V)),H a=some (.ins A.jQ dx fs)→aH K H (.ref a) (.ref A.jQ)
 Rf:Mk K A.jQ A.km
 wF:aO K A.jQ "name"
 wG:aO K A.jQ "test"
 Le:aO K A.jQ "firm"
 dJ:zg K A.jR
 Rg:Mk K A.jR A.kI
 qC:aO K A.jR "name"
 gZ:aO K A.jR "each"
 gD:aO K A.jR "rows"
 qD:aO K A.jR "ways"
 dU:zg K A.jr
 Z6:Mk K A.jr A.kW
 Lf:aO K A.jr "name"
 cu:aO K A.jr "sheets"
 eG:aO K A.jr "totals"
 dw:zg K A.dm
 Z7:Mk K A.dm A.lg
 uV:Meth K A.dm "reaches_sum" A.il
 sV:Meth K A.dm "look_at_sheet" A.gF
 qZ:Meth K A.dm "look_at_saying" A.gA
 uW:Meth K A.dm "comes_again" A.ig
 yg:Meth K A.dm "is_within" A.jb
 pG:Meth K A.dm "reaches_question" A.fu
 iH:aO K A.dm "paper"
 dM:aO K A.dm "spots"
 jj:zg K A.vW
 aiX:∀ (H:Hp) (a dx:Addr) (fs:List (Str × V)),H a=some (.ins A.vW dx fs)→aH K H (.ref a) (.ref A.vW)
 Z8:Mk K A.vW A.qw
 Rh:Meth K A.vW "atoms" A.jO
 Lg:Meth K A.vW "settled" A.oR
 fK:aO K A.vW "name"
 jE:aO K A.vW "word"
 Ri:aO K A.vW "place"
 dX:zg K A.fc
 T7:∀ (H:Hp) (a dx:Addr) (fs:List (Str × V)),H a=some (.ins A.fc dx fs)→aH K H (.ref a) (.ref A.fc)
 JC:Mk K A.fc A.jA
 Cy:Meth K A.fc "atoms" A.fV
 yh:Meth K A.fc "settled" A.jd
 eN:aO K A.fc "name"
 uX:aO K A.fc "how"
 pW:aO K A.fc "number"
 T8:zg K A.HN
 Z9:Mk K A.HN A.oW
 Ox:Meth K A.HN "atoms" A.jh
 DW:aO K A.HN "test"
 GR:zg K A.w5
 acf:Mk K A.w5 A.jq
 Lh:Meth K A.w5 "atoms" A.fD
 DX:aO K A.w5 "one"
 wH:aO K A.w5 "other"
 vN:zg K A.oY
 W5:Mk K A.oY A.jq
 FT:Meth K A.oY "atoms" A.fD
 wI:aO K A.oY "one"
 tU:aO K A.oY "other"
 sW:YW K A.ZP "__init__" A.gP
 DY:YW K A.adh "__init__" A.oG
theorem wk:au ["self","name"] ["self","name"] (aa aZ):=⟨rfl,rfl,rfl,by symm,rfl,by symm,by symm⟩
theorem uf:au ["self","name"] ["self","name"] (aa aR):=⟨rfl,rfl,rfl,by symm,rfl,by symm,by symm⟩
theorem ph:au ["hundredths","figures","minus"] ["hundredths"] (aa dB):=⟨rfl,rfl,rfl,by symm,rfl,by symm,by symm⟩
theorem Cz:au ["self","low","high"] ["self","low","high"] (aa bU):=⟨rfl,rfl,rfl,by symm,rfl,by symm,by symm⟩
theorem Aw:au ["self"] ["self"] (aa bF):=⟨rfl,rfl,rfl,by symm,rfl,by symm,by symm⟩
theorem FW:au ["self","thing"] ["self","thing"] (aa cM):=⟨rfl,rfl,rfl,by symm,rfl,by symm,by symm⟩
theorem uY:au ["self","text"] ["self","text"] (aa aU):=⟨rfl,rfl,rfl,by symm,rfl,by symm,by symm⟩
theorem FZ:au ["self","answer"] ["self","answer"] (aa cN):=⟨rfl,rfl,rfl,by symm,rfl,by symm,by symm⟩
theorem Ga:au ["self"] ["self"] (aa cO):=⟨rfl,rfl,rfl,by symm,rfl,by symm,by symm⟩
theorem CG:au ["self","answer"] ["self","answer"] (aa bV):=⟨rfl,rfl,rfl,by symm,rfl,by symm,by symm⟩
theorem Ax:au ["self"] ["self"] (aa bG):=⟨rfl,rfl,rfl,by symm,rfl,by symm,by symm⟩
theorem Gb:au ["self"] ["self"] (aa cQ):=⟨rfl,rfl,rfl,by symm,rfl,by symm,by symm⟩
theorem CJ:au ["self","answer"] ["self","answer"] (aa bW):=⟨rfl,rfl,rfl,by symm,rfl,by symm,by symm⟩
theorem Gd:au ["self"] ["self"] (aa cR):=⟨rfl,rfl,rfl,by symm,rfl,by symm,by symm⟩
theorem CK:au ["self","words"] ["self","words"] (aa bY):=⟨rfl,rfl,rfl,by symm,rfl,by symm,by symm⟩
theorem JD:au ["self","thing"] ["self","thing"] (aa dC):=⟨rfl,rfl,rfl,by symm,rfl,by symm,by symm⟩
theorem wu:au ["self","text"] ["self","text"] (aa bc):=⟨rfl,rfl,rfl,by symm,rfl,by symm,by symm⟩
theorem JF:au ["self","answer"] ["self","answer"] (aa dD):=⟨rfl,rfl,rfl,by symm,rfl,by symm,by symm⟩
theorem JG:au ["self"] ["self"] (aa dF):=⟨rfl,rfl,rfl,by symm,rfl,by symm,by symm⟩
theorem Ay:au ["self","most"] ["self","most"] (aa bH):=⟨rfl,rfl,rfl,by symm,rfl,by symm,by symm⟩
theorem Ge:au ["self"] ["self"] (aa cT):=⟨rfl,rfl,rfl,by symm,rfl,by symm,by symm⟩
theorem Gf:au ["self","name"] ["self","name"] (aa cU):=⟨rfl,rfl,rfl,by symm,rfl,by symm,by symm⟩
theorem Gg:au ["self","name","kind","when"] ["self","name","kind","when"] (aa bR):=⟨rfl,rfl,rfl,by symm,rfl,by symm,by symm⟩
theorem Az:au ["self","name","test","firm"] ["self","name","test","firm"] (aa bI):=⟨rfl,rfl,rfl,by symm,rfl,by symm,by symm⟩
theorem Ba:au ["self","name","each","rows","ways"] ["self","name","each","rows","ways"] (aa bJ):=⟨rfl,rfl,rfl,by symm,rfl,by symm,by symm⟩
theorem Bb:au ["self","name","sheets","totals"] ["self","name","sheets","totals"] (aa bK):=⟨rfl,rfl,rfl,by symm,rfl,by symm,by symm⟩
theorem pX:au ["paper","kinds","sheet","row"] ["paper"] (aa gf):=⟨rfl,rfl,rfl,by symm,rfl,by symm,by symm⟩
theorem iI:au ["totals","name","known","often","times","part","inner","question","inner_times"] ["totals","name","known"] (aa gh):=⟨rfl,rfl,rfl,by symm,rfl,by symm,by symm⟩
theorem Gh:au ["paper","name"] ["paper","name"] (aa cV):=⟨rfl,rfl,rfl,by symm,rfl,by symm,by symm⟩
theorem pq:au ["paper","names","sheet"] ["paper"] (aa dG):=⟨rfl,rfl,rfl,by symm,rfl,by symm,by symm⟩
theorem jU:au ["paper","given","name"] ["paper"] (aa bL):=⟨rfl,rfl,rfl,by symm,rfl,by symm,by symm⟩
theorem Oz:au ["row"] ["row"] (aa eO):=⟨rfl,rfl,rfl,by symm,rfl,by symm,by symm⟩
theorem Rj:au ["saying"] ["saying"] (aa gj):=⟨rfl,rfl,rfl,by symm,rfl,by symm,by symm⟩
theorem Gi:au ["each","kinds"] ["each","kinds"] (aa cX):=⟨rfl,rfl,rfl,by symm,rfl,by symm,by symm⟩
theorem rm:au ["saying","kinds","totals","atom"] ["saying","kinds","totals"] (aa bZ):=⟨rfl,rfl,rfl,by symm,rfl,by symm,by symm⟩
theorem lA:au ["parts","kinds","totals","times","name"] ["parts","kinds","totals"] (aa b7):=⟨rfl,rfl,rfl,by symm,rfl,by symm,by symm⟩
theorem bj:au ["paper","kinds","totals","place","sheet","row","targets","target","saying","name","parts"] ["paper"] (aa b8):=⟨rfl,rfl,rfl,by symm,rfl,by symm,by symm⟩
theorem T9:au ["parts","totals"] ["parts","totals"] (aa gU):=⟨rfl,rfl,rfl,by symm,rfl,by symm,by symm⟩
theorem iR:au ["paper","totals","turn","path","name"] ["paper"] (aa cg):=⟨rfl,rfl,rfl,by symm,rfl,by symm,by symm⟩
theorem fX:au ["self","paper","place","sheet","spot","row"] ["self","paper"] (aa bM):=⟨rfl,rfl,rfl,by symm,rfl,by symm,by symm⟩
theorem sX:au ["self","question"] ["self","question"] (aa aK):=⟨rfl,rfl,rfl,by symm,rfl,by symm,by symm⟩
theorem uZ:au ["self","question","here"] ["self","question","here"] (aa aV):=⟨rfl,rfl,rfl,by symm,rfl,by symm,by symm⟩
theorem iw:au ["self","question","here","known"] ["self","question","here"] (aa aC):=⟨rfl,rfl,rfl,by symm,rfl,by symm,by symm⟩
theorem gM:au ["self","name","here","question","midway"] ["self","name","here"] (aa aL):=⟨rfl,rfl,rfl,by symm,rfl,by symm,by symm⟩
theorem fQ:au ["self","saying","here","atom","is_question"] ["self","saying","here"] (aa aF):=⟨rfl,rfl,rfl,by symm,rfl,by symm,by symm⟩
theorem dj:au ["self","place","sheet","sayings","spot","saying"] ["self","place"] (aa aJ):=⟨rfl,rfl,rfl,by symm,rfl,by symm,by symm⟩
theorem jV:au ["paper","reach","place"] ["paper"] (aa bN):=⟨rfl,rfl,rfl,by symm,rfl,by symm,by symm⟩
theorem Ua:au ["paper"] ["paper"] (aa gW):=⟨rfl,rfl,rfl,by symm,rfl,by symm,by symm⟩
theorem JH:au ["self","name","word","place"] ["self","name","word","place"] (aa cY):=⟨rfl,rfl,rfl,by symm,rfl,by symm,by symm⟩
theorem Li:au ["self"] ["self"] (aa dY):=⟨rfl,rfl,rfl,by symm,rfl,by symm,by symm⟩
theorem mV:au ["self","kinds","kind","answer"] ["self","kinds"] (aa cZ):=⟨rfl,rfl,rfl,by symm,rfl,by symm,by symm⟩
theorem wy:au ["self","name","how","number"] ["self","name","how","number"] (aa bf):=⟨rfl,rfl,rfl,by symm,rfl,by symm,by symm⟩
theorem yj:au ["self"] ["self"] (aa bx):=⟨rfl,rfl,rfl,by symm,rfl,by symm,by symm⟩
theorem u0:au ["self","kinds"] ["self","kinds"] (aa aW):=⟨rfl,rfl,rfl,by symm,rfl,by symm,by symm⟩
theorem Gj:au ["self","test"] ["self","test"] (aa dg):=⟨rfl,rfl,rfl,by symm,rfl,by symm,by symm⟩
theorem JK:au ["self"] ["self"] (aa dH):=⟨rfl,rfl,rfl,by symm,rfl,by symm,by symm⟩
theorem CN:au ["self","one","other"] ["self","one","other"] (aa cj):=⟨rfl,rfl,rfl,by symm,rfl,by symm,by symm⟩
theorem Gk:au ["self"] ["self"] (aa dh):=⟨rfl,rfl,rfl,by symm,rfl,by symm,by symm⟩
theorem u9:au ["_law_script","_law_k","_law_number"] ["_law_script","_law_k"] (aa gm):=⟨rfl,rfl,rfl,by symm,rfl,by symm,by symm⟩
theorem vd:au ["_law_script","_law_k","_law_some","_law_pad"] ["_law_script","_law_k"] (aa gn):=⟨rfl,rfl,rfl,by symm,rfl,by symm,by symm⟩
theorem sY:au ["_law_e","_law_many"] ["_law_e"] (aa eQ):=⟨rfl,rfl,rfl,by symm,rfl,by symm,by symm⟩
theorem iT:au ["_law_paper","_law_fault_here","_law_told","_law_e"] ["_law_paper"] (aa eU):=⟨rfl,rfl,rfl,by symm,rfl,by symm,by symm⟩
theorem nq:au ["_law_script","_law_low","_law_some","_law_turn"] ["_law_script"] (aa eV):=⟨rfl,rfl,rfl,by symm,rfl,by symm,by symm⟩
theorem OD:au ["_law_script","_law_cell_here"] ["_law_script","_law_cell_here"] (aa eY):=⟨rfl,rfl,rfl,by symm,rfl,by symm,by symm⟩
theorem Ea:au ["_law_script","_law_cell_here","_law_name_here"] ["_law_script","_law_cell_here"] (aa gq):=⟨rfl,rfl,rfl,by symm,rfl,by symm,by symm⟩
theorem vf:au ["_law_kinds_here","_law_script","_law_name_here","_law_k","_law_kind"] ["_law_kinds_here","_law_script","_law_name_here"] (aa gr):=⟨rfl,rfl,rfl,by symm,rfl,by symm,by symm⟩
theorem pA:au ["_law_kinds_here","_law_script","_law_atom_here","_law_what_here","_law_good"] ["_law_kinds_here","_law_script","_law_atom_here"] (aa gY):=⟨rfl,rfl,rfl,by symm,rfl,by symm,by symm⟩
theorem ie:au ["_law_atoms","_law_cell_here","_law_saying_here","_law_atom_here"] ["_law_atoms","_law_cell_here"] (aa dZ):=⟨rfl,rfl,rfl,by symm,rfl,by symm,by symm⟩
theorem pY:au ["_law_script","_law_kinds_here","_law_cell_here","_law_each_here","_law_what_here"] ["_law_script","_law_kinds_here"] (aa gw):=⟨rfl,rfl,rfl,by symm,rfl,by symm,by symm⟩
theorem fY:au ["_law_script","_law_kinds_here","_law_parts_here","_law_due_here","_law_k","_law_cell_here","_law_name_here","_law_what_here"] ["_law_script","_law_kinds_here"] (aa eZ):=⟨rfl,rfl,rfl,by symm,rfl,by symm,by symm⟩
theorem gJ:au ["_law_script","_law_kinds_here","_law_rows","_law_each_here","_law_due_here","_law_atoms","_law_k","_law_led","_law_atom_here","_law_parts_here","_law_later","_law_saying_here","_law_row","_law_second","_law_asked","_law_first","_law_paper"] ["_law_script"] (aa Ae):=⟨rfl,rfl,rfl,by symm,rfl,by symm,by symm⟩
seal PE PT PW PA PS qG PG Bm PI PO nJ jZ Dh d8 nM Bp Dk PC Br
local macro_rules | `(tactic| walk_at "rd1") => `(tactic| first
 | (refine And.intro rfl ?_)
 | (refine And.intro (by assumption) ?_)
 | (refine And.intro (fun _ e=>e) ?_)
 | (refine And.intro (aH.str _) ?_) | (refine And.intro (aH.int _) ?_) | (refine And.intro (aH.bl _) ?_) | (refine And.intro aH.non ?_)
 | (refine cJ ?_) | (refine bD ?_)
 | (apply Exists.intro))
local macro_rules | `(tactic| walk_at "rd") => `(tactic| repeat (walk_at "rd1"))
theorem len_app (x y:Str):(x++y).length=x.length+y.length:=by rw [xS,j6,List.length_append,← xS,← xS]
theorem yX {t u:TS}{D:Ends}{σ:St}{H:Hp} (hm:∀ N:St→Hp→Prop,(∀ σ' H',u D σ' H'→N σ' H')→t { D with nx:=N } σ H):abA t u D σ H:=hm _ fun _ _ h=>h
theorem yU {t u:TS}{D:Ends}{σ:St}{H:Hp} (R:St→Hp→Prop) (hk:∀ σ' H',R σ' H'→u D σ' H') (hm:∀ N:St→Hp→Prop,(∀ σ' H',R σ' H'→N σ' H')→t { D with nx:=N } σ H):abA t u D σ H:=hm _ hk
theorem aaa (i:Int) (h0:0≤i) (h1:i<26):atI ("abcdefghijklmnopqrstuvwxyz":Str).cps.toList i=some (97+i.toNat):=by
 have e:("abcdefghijklmnopqrstuvwxyz":Str).cps.toList=(List.range 26).map (97+·):=by symm
 obtain⟨c,hc,hc2⟩:=NB (l:=("abcdefghijklmnopqrstuvwxyz":Str).cps.toList) h0 (by rw [e];simpa using h1)
 rw [hc]
 rw [e,List.getElem?_map,List.getElem?_range (by omega)] at hc2
 exact hc2.symm
theorem W6 {x:Int} (h0:0≤x) (h:x<2 ^ 63):ib x≤60000000:=Nat.le_trans (Yr (by omega) (by omega)) (by decide)
theorem ibc {x:Int} (h:x.natAbs<2 ^ 256):ib x≤60000000:=Nat.le_trans (Ys (m:=256) h) (by decide)
theorem nu {σ:St}{H:Hp}{a b:Hp→Prop} (h:a H):ada σ H (fun c H3=>if c=true then a H3 else b H3):=by
 show if true=true then a H else b H
 exact cJ h
theorem zJ {α β:Type}{R R':α→β→Prop}{as:List α}{bs:List β} (h:Paired R as bs) (f:∀ a b,R a b→R' a b):Paired R' as bs:=by
 induction h with
 | nil=>exact .nil
 | cons r _ ih=>exact .cons (f _ _ r) ih
theorem yE {α β:Type}{R:α→β→Prop}{as as':List α}{bs bs':List β} (h:Paired R as bs) (k:Paired R as' bs'):Paired R (as++as') (bs++bs'):=by
 induction h with
 | nil=>exact k
 | cons r _ ih=>exact .cons r ih
theorem zW {α β:Type}{R:α→β→Prop}:∀ {as:List α}{bs:List β}{i:Nat}{a:α},Paired R as bs→as[i]? = some a→∃ b,bs[i]? = some b∧R a b
 | _,_,0,_,.cons h _,e=>by cases e;exact⟨_,rfl,h⟩
 | _,_,i+1,_,.cons _ t,e=>zW (i:=i) t e
theorem lB {α β:Type}{R:α→β→Prop}:∀ {as:List α}{bs:List β}{i:Nat}{b:β},Paired R as bs→bs[i]? = some b→∃ a,as[i]? = some a∧R a b
 | _,_,0,_,.cons h _,e=>by cases e;exact⟨_,rfl,h⟩
 | _,_,i+1,_,.cons _ t,e=>lB (i:=i) t e
theorem zK {α β:Type}{R:α→β→Prop}{as:List α}{bs:List β} (h:Paired R as bs):as.length=bs.length:=Paired.length h
theorem yJ {α:Type}{l:List α}{i:Nat}{x:α} (h:l[i]? = some x):l.take (i+1)=l.take i++[x]:=by rw [List.take_succ,h];rfl
def sqm (m:Int):Int:=m*m % 2147483629
def aq (ns:List Int) (k:Nat):Int :=
 if k<ns.length then ns.getD k 0 else sqm (if 0<ns.length then (k:Int)*48271+11+ns.getD (k*7 % ns.length) 0 % 2147483647*69621 else (k:Int)*48271+11)
def Ns (ns:List Int):Prop:=∀ n∈ns,ib n≤1048576
def aeG (K:W.Frag):Sp:=fun vs H Q _=>∃ (a:Addr) (ns:List Int) (k:Nat),vs=[.ref a,.int k]∧cB K H a (ns.map V.int)∧k<1000∧ns.length≤1000∧Ns ns∧Q (.int (aq ns k)) H
section
variable {P:Program}{w:World}{K:W.Frag}{mg:Str→Option Value}{base:Heap}{A:dq}
theorem lY (T:Txt K mg A):aN P w K mg base dR 1 A.rT A.wV ["_law_script","_law_k"] (aeG K):=by
 refine T.Tw.ok u9 (fun vs H Q E h=>?_) (fun cdv A0 outer s H vs Q E hr h=>?_)
 · obtain⟨a,ns,k,rfl,_⟩:=h
   rfl
 obtain⟨a,ns,k,rfl,hS,hk,hl,hb,q⟩:=h
 refine⟨_,(zD (yF (zV XN (pv 1) (zY xB (by rfl) T.Ai PySem.boot_len (zA (pv 0) zC)) (yD _)) (zF (zR (xX xR (pv 0) (pv 1) (fun _ _=>rfl)))) zU)
     (zD (zS (i:=2) u9.nd rfl ‹0› (zP xO (zP rJ (pv 1) zH) zH))
     (zD (yF (zV ac2 (zY xB (by rfl) T.Ai PySem.boot_len (zA (pv 0) zC)) zH (yD _)) (zF (zS (i:=2) u9.nd rfl ‹0› (zP xO (pv 2) (zP rJ (zP yN (xX xR (pv 0) (zP yN (zP rJ (pv 1) zH) (zY xB (by rfl) T.Ai PySem.boot_len (zA (pv 0) zC))) (fun _ _=>rfl)) zH) zH)))) zU)
     (zF (zR (zP yN (zP rJ (pv 2) (pv 2)) zH)))))),?_⟩
 have eL:((ns.map V.int).length:Nat)=ns.length:=List.length_map ..
 refine⟨_,rfl,_,rfl,a,_,rfl,.inl hS,_,_,rfl,rfl,_,rfl,?_⟩
 refine jY (fun c=>?_) (fun c=>?_)
 · have c':(k:Int)<((ns.map V.int).length:Nat):=of_decide_eq_true c
   have c2:k<ns.length:=by rw [eL] at c';omega
   obtain⟨v,hv,hv2⟩:=NB (l:=ns.map V.int) (i:=(k:Int)) (by omega) c'
   obtain⟨n,hn,rfl⟩:=zu hv2
   have e:aq ns k=n:=by
     unfold aq
     rw [if_pos c2,List.getD_eq_getElem?_getD,show ns[k]? = some n from hn]
     rfl
   exact⟨_,rfl,_,rfl,a,_,_,_,rfl,rfl,hS,hv,by rw [← e];exact q⟩
 · have c2:¬ k<ns.length:=fun z=>c (decide_eq_true (by rw [eL];omega))
   unfold aq at q
   rw [if_neg c2] at q
   refine⟨_,rfl,_,_,rfl,rfl,⟨W6 (by omega) (by omega),W6 (by omega) (by omega)⟩,_,_,rfl,rfl,?_⟩
   refine⟨_,rfl,a,_,rfl,.inl hS,_,_,rfl,rfl,_,rfl,?_⟩
   refine jY (fun d=>?_) (fun d=>?_)
   · have d':(((ns.map V.int).length:Nat):Int) > 0:=of_decide_eq_true d
     have d2:0<ns.length:=by rw [eL] at d';omega
     rw [if_pos d2] at q
     have hx:((k:Int)*7 % ((ns.map V.int).length:Nat))=((k*7 % ns.length:Nat):Int):=by rw [eL,Int.natCast_emod,Int.natCast_mul];rfl
     have hlt:k*7 % ns.length<ns.length:=Nat.mod_lt _ d2
     obtain⟨v,hv,hv2⟩:=NB (l:=ns.map V.int) (i:=(k:Int)*7 % ((ns.map V.int).length:Nat)) (by rw [hx];omega) (by rw [hx,eL];omega)
     obtain⟨n,hn,rfl⟩:=zu hv2
     have e:ns.getD (k*7 % ns.length) 0=n:=by
       rw [hx] at hn
       rw [List.getD_eq_getElem?_getD,show ns[k*7 % ns.length]? = some n from hn]
       rfl
     rw [e] at q
     have a0:=Int.emod_nonneg n (b:=2147483647) (by decide)
     have a1:=Int.emod_lt_of_pos n (b:=2147483647) (by decide)
     refine⟨_,rfl,_,rfl,_,rfl,_,_,rfl,rfl,⟨W6 (by omega) (by omega),W6 (by decide) (by decide)⟩,_,rfl,a,_,rfl,.inl hS,_,_,rfl,rfl,(by rw [eL];omega),a,_,_,_,rfl,rfl,hS,hv,_,_,rfl,rfl,(by show (0:Int)<2147483647;decide),_,_,rfl,rfl,⟨W6 (by show (0:Int)≤n % 2147483647;omega) (by show n % 2147483647<2 ^ 63;omega),W6 (by decide) (by decide)⟩,_,_,rfl,rfl,?_⟩
     refine⟨_,rfl,_,rfl,_,_,rfl,rfl,⟨ibc ?_,ibc ?_⟩,_,_,rfl,rfl,(by show (0:Int)<2147483629;decide),q⟩
     · show ((k:Int)*48271+11+n % 2147483647*69621).natAbs<2 ^ 256
       omega
     · show ((k:Int)*48271+11+n % 2147483647*69621).natAbs<2 ^ 256
       omega
   · have d2:¬ 0<ns.length:=fun z=>d (decide_eq_true (by rw [eL];omega))
     rw [if_neg d2] at q
     refine⟨_,rfl,_,rfl,_,_,rfl,rfl,⟨ibc ?_,ibc ?_⟩,_,_,rfl,rfl,(by show (0:Int)<2147483629;decide),q⟩
     · show ((k:Int)*48271+11).natAbs<2 ^ 256
       omega
     · show ((k:Int)*48271+11).natAbs<2 ^ 256
       omega
end
def fj (p:Int) (k:Nat):Str:=S (qd [120] (p % 4).toNat)++S [97+k % 26]++S [97+k / 26 % 26]++S (qd [121] (p / 4 % 5).toNat)
theorem aab (l:List Nat) (p:Int) (m:Nat) (h:p.toNat≤m) (hl:l.length=1):(qd l p.toNat).length≤m:=by rw [uz,hl];omega
theorem Vr (p:Int) (k:Nat):cd (fj p k)=qd [120] (p % 4).toNat++[97+k % 26]++[97+k / 26 % 26]++qd [121] (p / 4 % 5).toNat:=by
 unfold fj
 rw [j6,j6,j6]
 rfl
theorem OJ {p:Int}{j k:Nat} (hj:j<26) (hk:k<26) (e:fj p j=fj p k):j=k:=by
 have e2:=congrArg cd e
 rw [Vr,Vr,List.append_assoc,List.append_assoc,List.append_assoc,List.append_assoc] at e2
 have e3:=List.append_cancel_left e2
 have e4:=List.head_eq_of_cons_eq e3
 omega
theorem O1 (p:Int) (k:Nat):(fj p k).length≤9:=by
 have a0:=Int.emod_lt_of_pos p (b:=4) (by decide)
 have b0:=Int.emod_lt_of_pos (p / 4) (b:=5) (by decide)
 rw [xS,Vr,List.length_append,List.length_append,List.length_append,uz,uz]
 simp only [List.length_cons,List.length_nil]
 omega
def aeH (K:W.Frag):Sp:=fun vs H Q _=>∃ (a:Addr) (ns:List Int) (k:Nat),vs=[.ref a,.int k]∧cB K H a (ns.map V.int)∧k<26∧ns.length≤1000∧Ns ns∧Q (.str (fj (aq ns 0) k)) H
section
variable {P:Program}{w:World}{K:W.Frag}{mg:Str→Option Value}{base:Heap}{A:dq}
theorem xT (T:Txt K mg A):aN P w K mg base dR 2 A.rW A.wW ["_law_script","_law_k"] (aeH K):=by
 have du:=lY (P:=P) (w:=w) (base:=base) T
 refine T.Tz.ok vd (fun vs H Q E h=>?_) (fun cdv A0 outer s H vs Q E hr h=>?_)
 · obtain⟨a,ns,k,rfl,_⟩:=h
   rfl
 obtain⟨a,ns,k,rfl,hS,hk,hl,hb,q⟩:=h
 refine⟨_,(zD (zS (i:=2) vd.nd rfl ‹0› zQ)
     (zD (zS (i:=3) vd.nd rfl ‹0› (zO du ‹hr› rfl T.fJ T.fH T.fG .nil zM (zA (pv 0) (zA zH zC))))
     (zF (zR (zP yS (zP yS (zP yS (zP Hq zQ (zP yN (pv 3) zH)) (xX X8 (pv 2) (zP yN (pv 1) zH) (fun _ _=>rfl))) (xX X8 (pv 2) (zP yN (zP m5 (pv 1) zH) zH) (fun _ _=>rfl))) (zP Hq zQ (zP yN (zP m5 (pv 3) zH) zH))))))),?_⟩
 refine⟨_,rfl,a,ns,0,rfl,hS,by decide,hl,hb,?_⟩
 generalize aq ns 0=p at q
 have a0:=Int.emod_nonneg p (b:=4) (by decide)
 have a1:=Int.emod_lt_of_pos p (b:=4) (by decide)
 have b0:=Int.emod_nonneg (p / 4) (b:=5) (by decide)
 have b1:=Int.emod_lt_of_pos (p / 4) (b:=5) (by decide)
 have r1:=aab [120] (p % 4) 4 (by omega) rfl
 have r2:=aab [121] (p / 4 % 5) 5 (by omega) rfl
 have l1:(S (qd (cd ‹"x"›) (p % 4).toNat)).length≤4:=by rw [xS,En];exact r1
 have l2:(S (qd (cd ‹"y"›) (p / 4 % 5).toNat)).length≤5:=by rw [xS,En];exact r2
 have lx:‹"x"›.length=1:=by symm
 have ly:‹"y"›.length=1:=by symm
 have lz:("abcdefghijklmnopqrstuvwxyz":Str).length=26:=by symm
 have k0:((k:Int) % 26).toNat=k % 26:=by omega
 have k1:((k:Int) / 26 % 26).toNat=k / 26 % 26:=by omega
 have c0:=aaa ((k:Int) % 26) (by omega) (by omega)
 have c1:=aaa ((k:Int) / 26 % 26) (by omega) (by omega)
 rw [k0] at c0
 rw [k1] at c1
 have ls:∀ c:Nat,(⟨#[c]⟩:Str).length=1:=fun c=>rfl
 refine⟨_,rfl,_,_,rfl,rfl,(by show (0:Int)<4;decide),_,_,rfl,rfl,a0,(by omega),(by rw [lx];omega),(by rw [lx];omega),?_⟩
 refine⟨_,rfl,_,rfl,_,_,rfl,rfl,(by show (0:Int)<26;decide),_,_,_,rfl,rfl,(by rw [lz,sizeLine_eq];omega),c0,?_⟩
 refine⟨_,_,rfl,rfl,(by rw [sizeLine_eq];have:=ls (97+k % 26);omega),?_⟩
 refine⟨_,rfl,_,rfl,_,_,rfl,rfl,⟨by decide,by decide⟩,_,_,rfl,rfl,(by show (0:Int)<26;decide),_,_,_,rfl,rfl,(by rw [lz,sizeLine_eq];omega),c1,?_⟩
 refine⟨_,_,rfl,rfl,(by rw [sizeLine_eq,len_app];have:=ls (97+k % 26);have:=ls (97+k / 26 % 26);omega),?_⟩
 refine⟨_,rfl,_,_,rfl,rfl,⟨by decide,by decide⟩,_,_,rfl,rfl,(by show (0:Int)<5;decide),_,_,rfl,rfl,b0,(by omega),(by rw [ly];omega),(by rw [ly];omega),?_⟩
 exact⟨_,_,rfl,rfl,(by rw [sizeLine_eq,len_app,len_app];have:=ls (97+k % 26);have:=ls (97+k / 26 % 26);omega),q⟩
end
theorem lZ {H:Hp}{a b:Addr}{o:HO} (h:upd H a o b=none):b≠a∧H b=none:=by
 by_cases e:b=a
 · subst e;rw [zB] at h;cases h
 · exact⟨e,by rw [zL e] at h;exact h⟩
theorem same_none {H H':Hp} (s:az H H') {b:Addr} (h:H' b=none):H b=none:=by
 cases e:H b with
 | none=>rfl
 | some o=>rw [s b o e] at h;cases h
def Fr (M:List Addr) (H H':Hp):Prop:=∀ b o,H b=some o→b∉M→H' b=some o
theorem Fr.of {M:List Addr}{H H':Hp} (s:az H H'):Fr M H H':=fun b o h _=>s b o h
theorem Fr.trans {M:List Addr}{H H' H'':Hp} (a:Fr M H H') (b:Fr M H' H''):Fr M H H'':=fun x o h n=>b x o (a x o h n) n
theorem Fr.upd {M:List Addr}{H H':Hp} (a:Fr M H H') {m:Addr} (h:m∈M) (o:HO):Fr M H (upd H' m o):=fun x u hx n=>by
 rw [zL (fun e=>n (by rw [e];exact h))];exact a x u hx n
theorem Fr.new {M:List Addr}{H H':Hp} (a:Fr M H H') {m:Addr} (h:H' m=none) (o:HO):Fr M H (L2.upd H' m o):=fun x u hx n=>by
 have:=a x u hx n
 rw [zL (zI this h)];exact this
theorem Fr.more {M M':List Addr}{H H':Hp} (a:Fr M H H') (h:∀ m∈M,m∈M'):Fr M' H H':=fun x u hx n=>a x u hx fun e=>n (h x e)
theorem Bc {x a:Addr} (h:x≠a):x∉[a]:=fun e=>h (List.mem_singleton.mp e)
abbrev Ub (A:dq) (dx:Addr) (u1 u2 u3:V):HO:=.ins A.pP dx [("name",u1),("kind",u2),("when",u3)]
abbrev oSh (A:dq) (dx:Addr) (u1 u2:V) (q1 q2:Addr):HO:=.ins A.jR dx [("name",u1),("each",u2),("rows",.ref q1),("ways",.ref q2)]
abbrev oPa (A:dq) (dx:Addr) (u1:V) (q1 q2:Addr):HO:=.ins A.jr dx [("name",u1),("sheets",.ref q1),("totals",.ref q2)]
def aeI (K:W.Frag):Sp:=fun vs H Q _=>∃ p C dx u1,vs=[.ref p,u1]∧H p=some (.ins C dx [])∧zg K C∧aO K C "name"∧Q .non (upd H p (.ins C dx [("name",u1)]))
def aeJ (A:dq):Sp:=fun vs H Q _=>∃ p dx u1 u2 u3,vs=[.ref p,u1,u2,u3]∧H p=some (.ins A.pP dx [])∧Q .non (upd H p (Ub A dx u1 u2 u3))
def aac (A:dq) (K:W.Frag):Sp:=fun vs H Q _=>∃ p dx u1 u2 l1 l2 xs ys,vs=[.ref p,u1,u2,.ref l1,.ref l2]∧H p=some (.ins A.jR dx [])∧H l1=some (.lst xs)∧H l2=some (.lst ys) ∧
 ∀ q1 q2 H',q1≠q2→H q1=none→H q2=none→Fr [p] H H'→H' p=some (oSh A dx u1 u2 q1 q2)→H' q1=some (.lst xs)→H' q2=some (.lst ys)→Q .non H'
abbrev Part:=Int × Option Str
def nv:Option Str→V
 | none=>.non
 | some z=>.str z
def W7 (H:Hp) (x:V) (p:Part):Prop:=∃ a,x=.ref a∧H a=some (.tup [.int p.1,nv p.2])
def PsR (H:Hp) (l:Addr) (ps:List Part):Prop:=∃ xs,H l=some (.lst xs)∧Paired (W7 H) xs ps
abbrev rD:=Str × List Part
def TtR (H:Hp) (x:V) (t:rD):Prop:=∃ a l,x=.ref a∧H a=some (.tup [.str t.1,.ref l])∧PsR H l t.2
def TsR (H:Hp) (l:Addr) (ts:List rD):Prop:=∃ xs,H l=some (.lst xs)∧Paired (TtR H) xs ts
def Kp (H H':Hp):Prop:=∀ b o,H b=some o→((∃ t,o=.tup t)∨∃ l,o=.lst l)→H' b=some o
theorem Kp.of {H H':Hp} (s:az H H'):Kp H H':=fun b o h _=>s b o h
theorem Fr.kp {p:Addr}{H H':Hp}{C dx:Addr}{fs:List (Str × V)} (F:Fr [p] H H') (hp:H p=some (.ins C dx fs)):Kp H H':=fun b o h k=>F b o h (Bc (za h hp (by
 rcases k with ⟨t,rfl⟩ | ⟨l,rfl⟩ <;> (intro z;cases z))))
theorem W7.kp {H H':Hp} (s:Kp H H') {x:V}{p:Part} (h:W7 H x p):W7 H' x p:=let ⟨a,e,h1⟩:=h; ⟨a,e,s _ _ h1 (.inl ⟨_,rfl⟩)⟩
theorem PsR.kp {H H':Hp} (s:Kp H H') {l:Addr}{ps:List Part} (h:PsR H l ps):PsR H' l ps:=let ⟨xs,e,h1⟩:=h; ⟨xs,s _ _ e (.inr ⟨_,rfl⟩),zJ h1 fun _ _ r=>r.kp s⟩
theorem TtR.kp {H H':Hp} (s:Kp H H') {x:V}{t:rD} (h:TtR H x t):TtR H' x t:=let ⟨a,l,e,h1,h2⟩:=h; ⟨a,l,e,s _ _ h1 (.inl ⟨_,rfl⟩),h2.kp s⟩
theorem TsR.kp {H H':Hp} (s:Kp H H') {l:Addr}{ts:List rD} (h:TsR H l ts):TsR H' l ts:=let ⟨xs,e,h1⟩:=h; ⟨xs,s _ _ e (.inr ⟨_,rfl⟩),zJ h1 fun _ _ r=>r.kp s⟩
def aeL (K:W.Frag):Sp:=fun vs H Q _=>∃ p C dx lo hi,vs=[.ref p,lo,hi]∧H p=some (.ins C dx [])∧zg K C∧aO K C "low"∧aO K C "high"∧Q .non (upd H p (.ins C dx [("low",lo),("high",hi)]))
def aae (A:dq) (K:W.Frag):Sp:=fun vs H Q _=>∃ p dx u1 l1 l2 xs ts,vs=[.ref p,u1,.ref l1,.ref l2]∧H p=some (.ins A.jr dx [])∧H l1=some (.lst xs)∧TsR H l2 ts∧ts.length≤100 ∧
 ∀ q1 q2 H',Fr [p] H H'→H' p=some (oPa A dx u1 q1 q2)→H' q1=some (.lst xs)→TsR H' q2 ts→Q .non H'
section
variable {P:Program}{w:World}{K:W.Frag}{mg:Str→Option Value}{base:Heap}{A:dq}
theorem nC (T:Txt K mg A):aN P w K mg base dR 1 A.gP A.mz ["self","low","high"] (aeL K):=by
 refine T.Es.ok Cz (fun vs H Q E h=>?_) (fun cdv A0 outer s H vs Q E hr h=>?_)
 · obtain⟨p,C,dx,lo,hi,rfl,_⟩:=h
   rfl
 obtain⟨p,C,dx,lo,hi,rfl,hp,cl,n1,n2,q⟩:=h
 refine⟨_,(zD (yQ (pv 0) (pv 1) rfl)
     (zF (yQ (pv 0) (pv 2) rfl))),?_⟩
 refine⟨_,rfl,_,rfl,p,C,dx,_,rfl,hp,cl,n1,by decide,?_⟩
 refine⟨_,rfl,_,rfl,p,C,dx,_,rfl,zB,cl,n2,(by show 1<1000;decide),?_⟩
 rw [yA]
 exact q
theorem Eb (T:Txt K mg A):aN P w K mg base dR 1 A.oG A.oH ["self","name"] (aeI K):=by
 refine T.Ij.ok Gf (fun vs H Q E h=>?_) (fun cdv A0 outer s H vs Q E hr h=>?_)
 · obtain⟨p,C,dx,u1,rfl,_⟩:=h
   rfl
 obtain⟨p,C,dx,u1,rfl,hp,cl,na,q⟩:=h
 refine⟨_,(zF (yQ (pv 0) (pv 1) rfl)),?_⟩
 exact⟨_,rfl,_,rfl,p,_,dx,_,rfl,hp,cl,na,by decide,q⟩
theorem Rk (T:Txt K mg A):aN P w K mg base dR 3 A.oJ A.jK ["self","name","kind","when"] (aeJ A):=by
 have pB:=Eb (P:=P) (w:=w) (base:=base) T
 refine T.Ik.ok Gg (fun vs H Q E h=>?_) (fun cdv A0 outer s H vs Q E hr h=>?_)
 · obtain⟨p,dx,u1,u2,u3,rfl,_⟩:=h
   rfl
 obtain⟨p,dx,u1,u2,u3,rfl,hp,q⟩:=h
 refine⟨_,(zD (yK (uA T.DY pB ‹hr› rfl T.adm T.uJ zM (zA (pv 0) (zA (pv 1) zC))))
     (zD (yQ (pv 0) (pv 2) rfl)
     (zF (yQ (pv 0) (pv 3) rfl)))),?_⟩
 refine⟨_,rfl,_,rfl,p,_,dx,u1,rfl,hp,T.uT,T.pU,?_⟩
 refine⟨_,rfl,_,rfl,p,_,dx,_,rfl,zB,T.uT,T.DQ,(by show 1<1000;decide),?_⟩
 refine⟨_,rfl,_,rfl,p,_,dx,_,rfl,zB,T.uT,T.DR,(by show 2<1000;decide),?_⟩
 rw [yA,yA]
 exact q
theorem Lj (T:Txt K mg A):aN P w K mg base dR 1 A.kI A.kJ ["self","name","each","rows","ways"] (aac A K):=by
 refine T.BW.ok Ba (fun vs H Q E h=>?_) (fun cdv A0 outer s H vs Q E hr h=>?_)
 · obtain⟨p,dx,u1,u2,l1,l2,xs,ys,rfl,_⟩:=h
   rfl
 obtain⟨p,dx,u1,u2,l1,l2,xs,ys,rfl,hp,h1,h2,q⟩:=h
 refine⟨_,(zD (yQ (pv 0) (pv 1) rfl)
     (zD (yQ (pv 0) (pv 2) rfl)
     (zD (yQ (pv 0) (yG xV (by rfl) T.Jk Bt.list (zA (pv 3) zC)) rfl)
     (zF (yQ (pv 0) (yG xV (by rfl) T.Jk Bt.list (zA (pv 4) zC)) rfl))))),?_⟩
 have n1:l1≠p:=za h1 hp (by intro z;cases z)
 have n2:l2≠p:=za h2 hp (by intro z;cases z)
 refine⟨_,rfl,_,rfl,p,_,dx,_,rfl,hp,T.dJ,T.qC,by decide,?_⟩
 refine⟨_,rfl,_,rfl,p,_,dx,_,rfl,zB,T.dJ,T.gZ,(by show 1<1000;decide),?_⟩
 rw [yA]
 refine⟨_,rfl,l1,xs,rfl,.inl (cB.of (by rw [zL n1];exact h1)),fun q1 hq1=>?_⟩
 obtain⟨e1,f1⟩:=lZ hq1
 refine⟨_,rfl,p,_,dx,_,rfl,(by rw [zL (Ne.symm e1)];exact zB),T.dJ,T.gD,(by show 2<1000;decide),?_⟩
 refine⟨_,rfl,l2,ys,rfl,.inl (cB.of (by rw [zL n2,zL (zI h2 f1),zL n2];exact h2)),fun q2 hq2=>?_⟩
 obtain⟨e2,g2⟩:=lZ hq2
 obtain⟨e3,g3⟩:=lZ g2
 obtain⟨e4,f2⟩:=lZ g3
 refine⟨_,rfl,p,_,dx,_,rfl,(by rw [zL (Ne.symm e2)];exact zB),T.dJ,T.qD,(by show 3<1000;decide),?_⟩
 refine q q1 q2 _ (Ne.symm e3) f1 f2 (fun b o hb hn=>?_) zB ?_ ?_
 · have nb:b≠p:=fun e=>hn (by rw [e];exact List.mem_singleton.mpr rfl)
   rw [zL nb,zL (zI hb f2),zL nb,zL (zI hb f1),zL nb];exact hb
 · rw [zL e1,zL (Ne.symm e3),zL e1];exact zB
 · rw [zL e2];exact zB
theorem Ln (T:Txt K mg A):aN P w K mg base dR 1 A.kW A.kY ["self","name","sheets","totals"] (aae A K):=by
 refine T.BX.ok Bb (fun vs H Q E h=>?_) (fun cdv A0 outer s H vs Q E hr h=>?_)
 · obtain⟨p,dx,u1,l1,l2,xs,ts,rfl,_⟩:=h
   rfl
 obtain⟨p,dx,u1,l1,l2,xs,ts,rfl,hp,h1,ht,hz,q⟩:=h
 obtain⟨ys,h2,hys⟩:=id ht
 refine⟨_,(zD (yQ (pv 0) (pv 1) rfl)
     (zD (yQ (pv 0) (yG xV (by rfl) T.Jk Bt.list (zA (pv 2) zC)) rfl)
     (zF (yQ (pv 0) (nQ (xJ (xA (x:="total") (M:=["self","name","sheets","totals"]) rfl (by rfl)) (by rfl) (by symm)) rfl (yO (pv 3)) (fun _ _ _ _=>lU) (fun _ _ _ _=>N5 (by exact (yL (zA (pv 0) (zA (yG xV (by rfl) T.Jk Bt.list (zA (pv 1) zC)) zC)))) (by dsimp only [eE] <;> rfl))) rfl)))),?_⟩
 have n1:l1≠p:=za h1 hp (by intro z;cases z)
 have n2:l2≠p:=za h2 hp (by intro z;cases z)
 refine⟨_,rfl,_,rfl,p,_,dx,_,rfl,hp,T.dU,T.Lf,by decide,?_⟩
 refine⟨_,rfl,l1,xs,rfl,.inl (cB.of (by rw [zL n1];exact h1)),fun q1 hq1=>?_⟩
 obtain⟨e1,f1⟩:=lZ hq1
 refine⟨_,rfl,p,_,dx,_,rfl,(by rw [zL (Ne.symm e1)];exact zB),T.dU,T.cu,(by show 1<1000;decide),?_⟩
 generalize hG:upd (upd (upd H p (.ins A.jr dx (pF ‹"name"› u1 []))) q1 (.lst xs)) p (.ins A.jr dx (pF ‹"sheets"› (V.ref q1) (pF ‹"name"› u1 [])))=H1
 have F1:Fr [p] H H1:=by rw [← hG];exact (((Fr.of (az.refl _)).upd (List.mem_singleton.mpr rfl) _).new hq1 _).upd (List.mem_singleton.mpr rfl) _
 have hp1:H1 p=some (.ins A.jr dx [("name",u1),("sheets",.ref q1)]):=by rw [← hG];exact zB
 have aeM:H1 q1=some (.lst xs):=by rw [← hG,zL e1];exact zB
 have hl2:H1 l2=some (.lst ys):=F1 _ _ h2 (Bc n2)
 have K1:Kp H H1:=F1.kp hp
 have lys:ys.length≤100:=by rw [zK hys];exact hz
 refine⟨_,rfl,l2,rfl,⟨_,cB.of hl2⟩,?_⟩
 refine nR (xs:=ys) (zZ (m:=100) lys) (fun i zs H'=>az H1 H'∧Paired (TtR H') zs (ts.take i)) ⟨az.refl _,.nil⟩ (fun i zs H' hw=>cB.of (hw.1 _ _ hl2)) (fun i x zs H' hx hlen hw=>?_) (fun zs H' hw p2 hp2=>?_)
 · obtain⟨s1,hp'⟩:=hw
   obtain⟨t,ht',a,l,rfl,ha,us,hus,hpu⟩:=zW hys hx
   have k2:Kp H H':=fun b o h k=>s1 _ _ (K1 b o h k)
   refine⟨a,.str t.1,.ref l,rfl,jJ.of (k2 _ _ ha (.inl ⟨_,rfl⟩)),nu ?_⟩
   refine⟨_,rfl,_,rfl,l,us,rfl,.inl (cB.of (k2 _ _ hus (.inr ⟨_,rfl⟩))),fun l' hl'=>?_⟩
   have s2:=zG hl' (.lst us)
   refine⟨(by show 2≤sizeLine;decide),fun a' ha'=>?_⟩
   have s3:=zG ha' (.tup [.str t.1,.ref l'])
   refine⟨(s1.trans s2).trans s3,?_⟩
   rw [yJ ht']
   exact yE (zJ hp' fun _ _ r=>r.kp (.of (s2.trans s3))) (.cons ⟨a',l',rfl,zB,us,s3 _ _ zB,zJ hpu fun _ _ r=>(r.kp k2).kp (.of (s2.trans s3))⟩ .nil)
 obtain⟨s1,hp'⟩:=hw
 rw [zK hys,List.take_length] at hp'
 have s2:=s1.trans (zG hp2 (.lst zs))
 have np2:p2≠p:=fun e=>by rw [e,s1 _ _ hp1] at hp2;cases hp2
 refine⟨_,rfl,p,_,dx,_,rfl,s2 _ _ hp1,T.dU,T.eG,(by show 2<1000;decide),?_⟩
 have F2:Fr [p] H1 (upd (upd H' p2 (.lst zs)) p (oPa A dx u1 q1 p2)):=(Fr.of s2).upd (List.mem_singleton.mpr rfl) _
 have K3:Kp (upd H' p2 (.lst zs)) (upd (upd H' p2 (.lst zs)) p (oPa A dx u1 q1 p2)):=((Fr.of (az.refl _)).upd (List.mem_singleton.mpr rfl) _:Fr [p] _ _).kp (s2 _ _ hp1)
 refine q q1 p2 _ (F1.trans F2) zB (F2 _ _ aeM (Bc e1)) ?_
 refine TsR.kp K3 ⟨zs,zB,zJ hp' fun _ _ r=>r.kp (.of (zG hp2 (.lst zs)))⟩
def aeN (A:dq):Sp:=fun vs H Q _=>∃ p dx,vs=[.ref p]∧H p=some (.ins A.aP dx [])∧Q .non (upd H p (.ins A.aP dx [("low",.int 0),("high",.int 1)]))
def aaf (A:dq):Sp:=fun vs H Q _=>∃ p dx u,vs=[.ref p,u]∧H p=some (.ins A.cz dx [])∧Q .non (upd H p (.ins A.cz dx [("low",.int 0),("high",u)]))
def acg (A:dq):Sp:=fun vs H Q _=>∃ (p dx l:Addr) (ws:List Str),vs=[.ref p,.ref l]∧H p=some (.ins A.bT dx [])∧H l=some (.lst (ws.map V.str))∧ws.length≤100∧∀ q H',Fr [p] H H'→H' p=some (.ins A.bT dx [("low",.int 0),("high",.int (ws.length - 1)),("words",.ref q)])→H' q=some (.lst (ws.map V.str))→Q .non H'
theorem Lp (T:Txt K mg A):aN P w K mg base dR 3 A.kh A.kj ["self","most"] (aaf A):=by
 have dN:=nC (P:=P) (w:=w) (base:=base) T
 refine T.BP.ok Ay (fun vs H Q E h=>?_) (fun cdv A0 outer s H vs Q E hr h=>?_)
 · obtain⟨p,dx,u,rfl,_⟩:=h
   rfl
 obtain⟨p,dx,u,rfl,hp,q⟩:=h
 refine⟨_,(zF (yK (uA T.sW dN ‹hr› rfl T.T5 T.gQ zM (zA (pv 0) (zA zH (zA (pv 1) zC)))))),?_⟩
 exact⟨_,rfl,_,rfl,p,_,dx,_,_,rfl,hp,T.Av,T.Ow,T.wD,q⟩
theorem Ec (T:Txt K mg A):aN P w K mg base dR 3 A.j7 A.j8 ["self"] (aeN A):=by
 have dN:=nC (P:=P) (w:=w) (base:=base) T
 refine T.BK.ok Aw (fun vs H Q E h=>?_) (fun cdv A0 outer s H vs Q E hr h=>?_)
 · obtain⟨p,dx,rfl,_⟩:=h
   rfl
 obtain⟨p,dx,rfl,hp,q⟩:=h
 refine⟨_,(zF (yK (uA T.sW dN ‹hr› rfl T.T5 T.gQ zM (zA (pv 0) (zA zH (zA zH zC)))))),?_⟩
 exact⟨_,rfl,p,_,dx,_,_,rfl,hp,T.qY,T.Oo,T.K9,q⟩
theorem O2 (T:Txt K mg A):aN P w K mg base dR 3 A.mH A.mJ ["self","words"] (acg A):=by
 have dN:=nC (P:=P) (w:=w) (base:=base) T
 refine T.Ey.ok CK (fun vs H Q E h=>?_) (fun cdv A0 outer s H vs Q E hr h=>?_)
 · obtain⟨p,dx,l,ws,rfl,_⟩:=h
   rfl
 obtain⟨p,dx,l,ws,rfl,hp,hl,hz,q⟩:=h
 have nl:l≠p:=za hl hp (by intro z;cases z)
 have lw:(ws.map V.str).length=ws.length:=List.length_map ..
 refine⟨_,(zD (yK (uA T.sW dN ‹hr› rfl T.T5 T.gQ zM (zA (pv 0) (zA zH (zA (zP R5 (zY xB (by rfl) T.Ai PySem.boot_len (zA (pv 1) zC)) zH) zC)))))
     (zF (yQ (pv 0) (yG xV (by rfl) T.Jk Bt.list (zA (pv 1) zC)) rfl))),?_⟩
 refine⟨_,rfl,_,rfl,l,_,rfl,.inl (cB.of hl),_,_,rfl,rfl,p,_,dx,_,_,rfl,hp,T.lK,T.Rc,T.Ov,?_⟩
 rw [lw]
 refine⟨_,rfl,l,_,rfl,.inl (cB.of (by rw [zL nl];exact hl)),fun q1 hq1=>?_⟩
 obtain⟨e1,f1⟩:=lZ hq1
 refine⟨_,rfl,p,_,dx,_,rfl,(by rw [zL (Ne.symm e1)];exact zB),T.lK,T.lM,(by show 2<1000;decide),?_⟩
 refine q q1 _ (((Fr.of (az.refl _)).upd (List.mem_singleton.mpr rfl) _).new hq1 _ |>.upd (List.mem_singleton.mpr rfl) _) zB (by rw [zL e1];exact zB)
end
theorem yW {H:Hp}{x dx:Addr} (nx:H x=none) (nd:H dx=none) (o:HO):az H (upd (upd H dx (.own x)) x o):=fun b u e=>by
 rw [zL (zI e nx),zL (zI e nd)];exact e
theorem W8 (m:Nat):Txt.zfill (S (dig m)) 3=S (HH (dig m)):=by
 unfold Txt.zfill HH
 rw [uy]
 split
 · rename_i h
   rw [show 3 - (dig m).length=0 by omega];rfl
 · rename_i h
   have hz:zfilled (S (dig m)) ((3:Int).toNat - (dig m).length)=Builtin.Str.padded (S (dig m)) ((3:Int).toNat - (dig m).length) 0 48:=by
     unfold zfilled
     split
     · rename_i e
       have:43∈dig m:=by
         have e':(dig m)[0]? = some 43:=by simpa [S] using e
         exact List.mem_of_getElem? e'
       have:=NZ this;omega
     · rename_i e
       have:45∈dig m:=by
         have e':(dig m)[0]? = some 45:=by simpa [S] using e
         exact List.mem_of_getElem? e'
       have:=NZ this;omega
     · rfl
   rw [hz]
   unfold Builtin.Str.padded
   refine Sw ?_
   rw [En]
   show (Array.replicate _ 48++(S (dig m)).cps++Array.replicate 0 48).toList=_
   rw [Array.toList_append,Array.toList_append]
   simp [S]
theorem aeO {f:List Nat} (h:2≤f.length):Eo f none (some (-2))=f.take (f.length - 2):=by
 unfold Eo
 have e1:HT.wz f.length 0 none=0:=rfl
 have e2:HT.wz f.length f.length (some (-2))=f.length - 2:=by
   show (if (-2:Int)<0 then ((-2:Int)+f.length).toNat else min (-2:Int).toNat f.length)=_
   rw [if_pos (by decide)];omega
 rw [e1,e2,List.drop_zero,Nat.sub_zero]
theorem aeP {f:List Nat} (h:2≤f.length):Eo f (some (-2)) none=f.drop (f.length - 2):=by
 unfold Eo
 have e1:HT.wz f.length f.length none=f.length:=rfl
 have e2:HT.wz f.length 0 (some (-2))=f.length - 2:=by
   show (if (-2:Int)<0 then ((-2:Int)+f.length).toNat else min (-2:Int).toNat f.length)=_
   rw [if_pos (by decide)];omega
 rw [e1,e2,List.take_of_length_le (by rw [List.length_drop];omega)]
theorem aeQ (n:Int):(if n<0 then -n else n)=((n.natAbs:Nat):Int):=by split <;> omega
theorem ach (m:Nat):((toString ((m:Nat):Int):String):Str)=S (dig m):=by
 rw [str_is];unfold vV;rw [if_neg (by omega)];rfl
def aiZ:Sp:=fun vs H Q _=>∃ n:Int,vs=[.int n]∧n.natAbs<10 ^ 60∧∀ H',az H H'→Q (.str (S (J9 n))) H'
section
variable {P:Program}{w:World}{K:W.Frag}{mg:Str→Option Value}{base:Heap}{A:dq}
theorem JL (T:Txt K mg A):aN P w K mg base dR 1 A.lG A.qe ["hundredths"] aiZ:=by
 refine T.Ka.ok ph (fun vs H Q E h=>?_) (fun cdv A0 outer s H vs Q E hr h=>?_)
 · obtain⟨n,rfl,_⟩:=h
   rfl
 obtain⟨n,rfl,hn,q⟩:=h
 refine⟨_,(zD (zS (i:=1) ph.nd rfl ‹0› (uw PySem.F.plainAttrs_str PySem.F.slot_str_zfill PySem.F.type_str_zfill YH (yG rG (by rfl) T.Q9 Bt.str (zA (zY XS (by rfl) T.aiW Bt.abs (zA (pv 0) zC)) zC)) (zA zH zC)))
     (zD (zS (i:=2) ph.nd rfl ‹0› (ur (zV XN (pv 0) zH (yD _)) zQ zQ))
     (zF (zR (zP yS (zP yS (zP yS (pv 2) (qI Yp (pv 1) vD (vG (ac1 XM zH)))) zQ) (qI Yp (pv 1) (vG (ac1 XM zH)) vD)))))),?_⟩
 have hl:=Ad (dig n.natAbs)
 have hd:=NT (k:=60) (by decide) hn
 have q:=q _ (az.refl _)
 have ef:(gO n).length=(HH (dig n.natAbs)).length:=rfl
 refine⟨_,rfl,n,rfl,?_⟩
 rw [aeQ]
 refine⟨_,rfl,Y4 (Nat.lt_trans (show (((n.natAbs:Nat):Int)).natAbs<10 ^ 60 by omega) (by symm)),?_⟩
 rw [ach]
 refine⟨rfl,_,_,rfl,rfl,(by symm),?_⟩
 rw [W8]
 have sz:(S (gO n)).length≤sizeLine:=zZ (m:=1000) (by rw [uy];omega)
 have fin:∀ sg:List Nat,sg.length≤1→Q (.str (S (sg++((gO n).take ((gO n).length - 2)++46::(gO n).drop ((gO n).length - 2))))) H→ah8 (tOp (fun x y H Q=>∃ i j,x=V.str i∧y=V.str j∧i.length+j.length≤sizeLine∧Q (V.str (i++j)) H) (tOp (fun x y H Q=>∃ i j,x=V.str i∧y=V.str j∧i.length+j.length≤sizeLine∧Q (V.str (i++j)) H) (tOp (fun x y H Q=>∃ i j,x=V.str i∧y=V.str j∧i.length+j.length≤sizeLine∧Q (V.str (i++j)) H) (Xx 2) (tSl (fun x lo hi H Q=>∃ z,x=V.str z∧z.length≤sizeLine∧Q (V.str (S (Eo (cd z) lo hi))) H) (Xx 1) Nu (X6 (tUn (rU fun i=>.int (-i)) (tC (V.int 2)))))) (tC (V.str ‹"."›))) (tSl (fun x lo hi H Q=>∃ z,x=V.str z∧z.length≤sizeLine∧Q (V.str (S (Eo (cd z) lo hi))) H) (Xx 1) (X6 (tUn (rU fun i=>.int (-i)) (tC (V.int 2)))) Nu)) { nx:=fun _ H'=>Q .non H',rt:=Q } [some (.int n),some (.str (S (gO n))),some (.str (S sg))] H:=fun sg hs qq=>by
   refine⟨_,rfl,_,rfl,_,rfl,_,rfl,_,rfl,sz,?_⟩
   rw [En,aeO (by omega)]
   refine⟨_,_,rfl,rfl,zZ (m:=1000) (by rw [uy,uy,List.length_take];omega),_,_,rfl,rfl,zZ (m:=1000) (by rw [xS,j6,List.length_append,En,En,List.length_take];show _+1≤1000;omega),?_⟩
   refine⟨_,rfl,_,rfl,_,rfl,_,rfl,sz,?_⟩
   rw [En,aeP (by omega),show ‹"."› = S [46] by symm,Ql,Ql]
   refine⟨_,_,rfl,rfl,zZ (m:=1000) (by rw [uy,uy,List.length_append,List.length_append,List.length_take,List.length_drop];show _+_+1+_≤1000;omega),?_⟩
   rw [Ql,List.append_assoc,List.append_assoc]
   exact qq
 unfold J9 sgn at q
 refine⟨_,rfl,_,_,rfl,rfl,_,rfl,jY (fun c=>?_) (fun c=>?_)⟩
 · rw [if_pos (of_decide_eq_true c)] at q
   have:=fin [45] (by decide) q
   rw [show S [45]=‹"-"› by symm] at this
   exact this
 · rw [if_neg (fun z=>c (decide_eq_true z))] at q
   have:=fin [] (by decide) q
   rw [show S []=‹""› by symm] at this
   exact this
theorem W9 (T:Txt K mg A):aN P w K mg base dR 1 A.mC A.mD ["self","answer"] (fun vs H Q _=>∃ p n,vs=[p,.int n]∧n.natAbs<10 ^ 60∧∀ H',az H H'→Q (.str (S (vV n))) H'):=by
 refine T.Et.ok CG (fun vs H Q E h=>?_) (fun cdv A0 outer s H vs Q E hr h=>?_)
 · obtain⟨p,z,rfl,_⟩:=h
   rfl
 obtain⟨p,n,rfl,hn,q⟩:=h
 refine⟨_,(zF (zR (yG rG (by rfl) T.Q9 Bt.str (zA (pv 1) zC)))),?_⟩
 refine⟨_,rfl,n,rfl,Y4 (Nat.lt_trans hn (by symm)),?_⟩
 rw [str_is]
 exact q _ (az.refl _)
theorem Xa (T:Txt K mg A):aN P w K mg base dR 2 A.mF A.mG ["self","answer"] (fun vs H Q _=>∃ p n,vs=[p,.int n]∧n.natAbs<10 ^ 60∧∀ H',az H H'→Q (.str (S (J9 n))) H'):=by
 have Lq:=JL (P:=P) (w:=w) (base:=base) T
 refine T.Ew.ok CJ (fun vs H Q E h=>?_) (fun cdv A0 outer s H vs Q E hr h=>?_)
 · obtain⟨p,z,rfl,_⟩:=h
   rfl
 obtain⟨p,n,rfl,hn,q⟩:=h
 refine⟨_,(zF (zR (zO Lq ‹hr› rfl T.Kf T.Ke T.Kc .nil zM (zA (pv 1) zC)))),?_⟩
 exact⟨_,rfl,n,rfl,hn,fun H' s1=>q H' s1⟩
end
inductive Kx where
 | yn
 | wh (m:Bool) (lo hi:Int)
 | nm (n:Int)
 | pk (ws:List Str)
def cW (A:dq) (m:Bool):Addr:=if m then A.d7 else A.bQ
def shW (m:Bool) (n:Int):List Nat:=if m then J9 n else vV n
def M9 (A:dq) (H:Hp) (k:Addr):Kx→Prop
 | .yn=>∃ dk,H k=some (.ins A.aP dk [("low",.int 0),("high",.int 1)])
 | .wh m lo hi=>∃ dk,H k=some (.ins (cW A m) dk [("low",.int lo),("high",.int hi)])
 | .nm n=>∃ dk,H k=some (.ins A.cz dk [("low",.int 0),("high",.int n)])
 | .pk ws=>∃ dk q hi,H k=some (.ins A.bT dk [("low",.int 0),("high",hi),("words",.ref q)])∧H q=some (.lst (ws.map V.str))
theorem M9.same {A:dq}{H H':Hp} (s:az H H') {k:Addr}{x:Kx} (h:M9 A H k x):M9 A H' k x:=by
 cases x with
 | yn=>obtain⟨d,h⟩:=h;exact⟨d,s _ _ h⟩
 | wh m lo hi=>obtain⟨d,h⟩:=h;exact⟨d,s _ _ h⟩
 | nm n=>obtain⟨d,h⟩:=h;exact⟨d,s _ _ h⟩
 | pk ws=>obtain⟨d,q,hi,h,h2⟩:=h;exact⟨d,q,hi,s _ _ h,s _ _ h2⟩
def Kx.G:Kx→Prop
 | .wh _ lo hi=>lo.natAbs<10 ^ 60∧hi.natAbs<10 ^ 60
 | .nm n=>n.natAbs<10 ^ 60
 | .pk ws=>(Dm ‹" "› ws).length≤500∧(ws.map fun x=>x.length).sum+ws.length * ‹" "›.length≤16777216
 | .yn=>True
def tlK:Kx→Str
 | .yn=>‹"yesno"›
 | .wh m lo hi=>Str.ofString (if m then "money " else "whole ")++(S (shW m lo) ++ ‹" "› ++ S (shW m hi))
 | .nm n=>‹"names "› ++ S (vV n)
 | .pk ws=>‹"pick "› ++ Dm ‹" "› ws
theorem aci {n:Int} (h:n.natAbs<10 ^ 60):(vV n).length≤61:=by
 have:=NT (k:=60) (by decide) h
 unfold vV
 split
 · rw [List.length_cons];omega
 · omega
theorem CP {m:Bool}{n:Int} (h:n.natAbs<10 ^ 60):(S (shW m n)).length≤100:=by
 cases m with
 | true=>have:=(ZK h).len;exact Nat.le_trans this (by decide)
 | false=>rw [uy];have:=aci h;show (vV n).length≤100;omega
def aah (A:dq) (P:Kx→Prop):Sp:=fun vs H Q _=>∃ k x,vs=[.ref k]∧M9 A H k x∧x.G∧P x∧∀ H',az H H'→Q (.str (tlK x)) H'
section
variable {P:Program}{w:World}{K:W.Frag}{mg:Str→Option Value}{base:Heap}{A:dq}
def JWs (T:Txt K mg A):jg P w K mg base dR 3 A.bQ "shown":=⟨_,_,_,_,[],[],T.o8,T.Jy,(W9 T).mono (by decide),T.Eu,.nil⟩
def JMs (T:Txt K mg A):jg P w K mg base dR 3 A.d7 "shown":=⟨_,_,_,_,[],[],T.o9,T.Jz,(Xa T).mono (by decide),T.Ex,.nil⟩
theorem Nb (T:Txt K mg A):aN P w K mg base dR 4 A.iJ A.j9 ["self"] (fun vs H Q _=>∃ k dk m lo hi,vs=[.ref k]∧H k=some (.ins (cW A m) dk [("low",.int lo),("high",.int hi)])∧lo.natAbs<10 ^ 60∧hi.natAbs<10 ^ 60∧∀ H',az H H'→Q (.str (S (shW m lo) ++ ‹" "› ++ S (shW m hi))) H'):=by
 refine T.BL.ok Ax (fun vs H Q E h=>?_) (fun cdv A0 outer s H vs Q E hr h=>?_)
 · obtain⟨k,dk,m,lo,hi,rfl,_⟩:=h
   rfl
 obtain⟨k,dk,m,lo,hi,rfl,hk,b1,b2,q⟩:=h
 have z1:=CP (m:=m) b1
 have z2:=CP (m:=m) b2
 have z0:‹" "›.length=1:=by symm
 refine⟨_,(zF (zR (zP yS (zP yS (yY (CX:=dR) (k:=3) ‹hr› zM (pv 0) (zA (zN (pv 0) rfl) zC)) zQ) (yY (CX:=dR) (k:=3) ‹hr› zM (pv 0) (zA (zN (pv 0) rfl) zC))))),?_⟩
 cases m with
 | false =>
   have z1:(S (vV lo)).length≤100:=z1
   have z2:(S (vV hi)).length≤100:=z2
   refine⟨_,rfl,k,_,dk,_,JWs T,rfl,hk,rfl,_,rfl,k,_,dk,_,_,rfl,hk,T.o8,T.Ao,rfl,_,lo,rfl,b1,fun H1 s1=>?_⟩
   refine⟨_,_,rfl,rfl,zZ (m:=1000) (by omega),?_⟩
   refine⟨_,rfl,k,_,dk,_,JWs T,rfl,s1 _ _ hk,rfl,_,rfl,k,_,dk,_,_,rfl,s1 _ _ hk,T.o8,T.wB,rfl,_,hi,rfl,b2,fun H2 s2=>?_⟩
   exact⟨_,_,rfl,rfl,zZ (m:=1000) (by rw [len_app];omega),q _ (s1.trans s2)⟩
 | true =>
   have z1:(S (J9 lo)).length≤100:=z1
   have z2:(S (J9 hi)).length≤100:=z2
   refine⟨_,rfl,k,_,dk,_,JMs T,rfl,hk,rfl,_,rfl,k,_,dk,_,_,rfl,hk,T.o9,T.Aq,rfl,_,lo,rfl,b1,fun H1 s1=>?_⟩
   refine⟨_,_,rfl,rfl,zZ (m:=1000) (by omega),?_⟩
   refine⟨_,rfl,k,_,dk,_,JMs T,rfl,s1 _ _ hk,rfl,_,rfl,k,_,dk,_,_,rfl,s1 _ _ hk,T.o9,T.wC,rfl,_,hi,rfl,b2,fun H2 s2=>?_⟩
   exact⟨_,_,rfl,rfl,zZ (m:=1000) (by rw [len_app];omega),q _ (s1.trans s2)⟩
def JWb (T:Txt K mg A):jg P w K mg base dR 4 A.bQ "bounds":=⟨_,_,_,_,[],[],T.o8,T.FP,(Nb T).mono (by decide),T.qQ,.nil⟩
def JMb (T:Txt K mg A):jg P w K mg base dR 4 A.d7 "bounds":=⟨_,_,_,_,[],[],T.o9,T.FQ,(Nb T).mono (by decide),T.qQ,.nil⟩
theorem aai (T:Txt K mg A):aN P w K mg base dR 1 A.nZ A.n6 ["self"] (aah A (· = .yn)):=by
 refine T.HX.ok Ga (fun vs H Q E h=>?_) (fun cdv A0 outer s H vs Q E hr h=>?_)
 · obtain⟨k,x,rfl,_⟩:=h
   rfl
 obtain⟨k,x,rfl,hk,g,rfl,q⟩:=h
 refine⟨_,(zF (zR zQ)),?_⟩
 exact q _ (az.refl _)
theorem aaj {m:Bool}{lo hi:Int} (b1:lo.natAbs<10 ^ 60) (b2:hi.natAbs<10 ^ 60):(S (shW m lo) ++ ‹" "› ++ S (shW m hi)).length≤300:=by
 have z1:=CP (m:=m) b1
 have z2:=CP (m:=m) b2
 have z0:‹" "›.length=1:=by symm
 rw [len_app,len_app];omega
theorem aak (T:Txt K mg A):aN P w K mg base dR 5 A.n8 A.oh ["self"] (aah A (fun x=>∃ lo hi,x=.wh false lo hi)):=by
 refine T.Ia.ok Gb (fun vs H Q E h=>?_) (fun cdv A0 outer s H vs Q E hr h=>?_)
 · obtain⟨k,x,rfl,_⟩:=h
   rfl
 obtain⟨k,x,rfl,hk,g,⟨lo,hi,rfl⟩,q⟩:=h
 obtain⟨dk,hk⟩:=hk
 refine⟨_,(zF (zR (zP yS zQ (xU (CX:=dR) (k:=4) ‹hr› zM (pv 0))))),?_⟩
 refine⟨_,rfl,k,_,dk,_,JWb T,rfl,hk,rfl,k,dk,false,lo,hi,rfl,hk,g.1,g.2,fun H1 s1=>?_⟩
 have z:=aaj (m:=false) g.1 g.2
 have z0:‹"whole "›.length=6:=by symm
 exact⟨_,_,rfl,rfl,zZ (m:=1000) (by omega),q _ s1⟩
theorem aal (T:Txt K mg A):aN P w K mg base dR 5 A.ou A.oA ["self"] (aah A (fun x=>∃ lo hi,x=.wh true lo hi)):=by
 refine T.Ie.ok Gd (fun vs H Q E h=>?_) (fun cdv A0 outer s H vs Q E hr h=>?_)
 · obtain⟨k,x,rfl,_⟩:=h
   rfl
 obtain⟨k,x,rfl,hk,g,⟨lo,hi,rfl⟩,q⟩:=h
 obtain⟨dk,hk⟩:=hk
 refine⟨_,(zF (zR (zP yS zQ (xU (CX:=dR) (k:=4) ‹hr› zM (pv 0))))),?_⟩
 refine⟨_,rfl,k,_,dk,_,JMb T,rfl,hk,rfl,k,dk,true,lo,hi,rfl,hk,g.1,g.2,fun H1 s1=>?_⟩
 have z:=aaj (m:=true) g.1 g.2
 have z0:‹"money "›.length=6:=by symm
 exact⟨_,_,rfl,rfl,zZ (m:=1000) (by omega),q _ s1⟩
theorem aam (T:Txt K mg A):aN P w K mg base dR 1 A.oE A.oF ["self"] (aah A (fun x=>∃ n,x=.nm n)):=by
 refine T.Ih.ok Ge (fun vs H Q E h=>?_) (fun cdv A0 outer s H vs Q E hr h=>?_)
 · obtain⟨k,x,rfl,_⟩:=h
   rfl
 obtain⟨k,x,rfl,hk,g,⟨n,rfl⟩,q⟩:=h
 obtain⟨dk,hk⟩:=hk
 have g:n.natAbs<10 ^ 60:=g
 refine⟨_,(zF (zR (zP yS zQ (yG rG (by rfl) T.Q9 Bt.str (zA (zN (pv 0) rfl) zC))))),?_⟩
 refine⟨_,rfl,k,_,dk,_,_,rfl,hk,T.Av,T.wD,rfl,n,rfl,Y4 (Nat.lt_trans g (by symm)),?_⟩
 rw [str_is]
 have z:=CP (m:=false) g
 have z:(S (vV n)).length≤100:=z
 have z0:‹"names "›.length=6:=by symm
 exact⟨_,_,rfl,rfl,zZ (m:=1000) (by omega),q _ (az.refl _)⟩
theorem aan (T:Txt K mg A):aN P w K mg base dR 1 A.qm A.qp ["self"] (aah A (fun x=>∃ ws,x=.pk ws)):=by
 refine T.Ko.ok JG (fun vs H Q E h=>?_) (fun cdv A0 outer s H vs Q E hr h=>?_)
 · obtain⟨k,x,rfl,_⟩:=h
   rfl
 obtain⟨k,x,rfl,hk,g,⟨ws,rfl⟩,q⟩:=h
 obtain⟨dk,qa,hi,hk,hq⟩:=hk
 obtain⟨g,g2⟩:(Dm ‹" "› ws).length≤500∧(ws.map fun x=>x.length).sum+ws.length * ‹" "›.length≤16777216:=g
 have z0:‹"pick "›.length=5:=by symm
 refine⟨_,(zF (zR (zP yS zQ (uw PySem.F.plainAttrs_str PySem.F.slot_str_join PySem.F.type_str_join abO zQ (zA (zN (pv 0) rfl) zC))))),?_⟩
 refine⟨rfl,_,rfl,k,_,dk,_,_,rfl,hk,T.lK,T.lM,rfl,_,qa,ws,rfl,rfl,.inl (cB.of hq),g2,?_⟩
 exact⟨_,_,rfl,rfl,zZ (m:=1000) (by omega),q _ (az.refl _)⟩
def cKx (A:dq):Kx→Addr
 | .yn=>A.aP
 | .wh m _ _=>cW A m
 | .nm _=>A.cz
 | .pk _=>A.bT
theorem M9.ins (T:Txt K mg A) {H:Hp}{k:Addr}{x:Kx} (h:M9 A H k x):∃ dk fs,H k=some (.ins (cKx A x) dk fs)∧zg K (cKx A x)∧fs.lookup ‹"told"› = none∧fs.lookup ‹"fits"› = none∧fs.lookup ‹"answer_of"› = none∧fs.lookup ‹"rank"› = none:=by
 cases x with
 | yn=>obtain⟨d,h⟩:=h;exact⟨d,_,h,T.qY,rfl,rfl,rfl,rfl⟩
 | wh m lo hi =>
   obtain⟨d,h⟩:=h
   cases m
   · exact⟨d,_,h,T.o8,rfl,rfl,rfl,rfl⟩
   · exact⟨d,_,h,T.o9,rfl,rfl,rfl,rfl⟩
 | nm n=>obtain⟨d,h⟩:=h;exact⟨d,_,h,T.Av,rfl,rfl,rfl,rfl⟩
 | pk ws=>obtain⟨d,q,hi,h,_⟩:=h;exact⟨d,_,h,T.lK,rfl,rfl,rfl,rfl⟩
theorem aao (T:Txt K mg A) (x:Kx):∃ M:jg P w K mg base dR 6 (cKx A x) "told",M.vR=[]∧∀ k H Q E,M9 A H k x→x.G→(∀ H',az H H'→Q (.str (tlK x)) H')→M.sp [.ref k] H Q E:=by
 cases x with
 | yn=>exact⟨⟨_,_,_,_,[],[],T.qY,T.K6,(aai T).mono (by decide),T.HY,.nil⟩,rfl,fun k H Q E h g q=>⟨k,_,rfl,h,g,rfl,q⟩⟩
 | wh m lo hi =>
   cases m
   · exact⟨⟨_,_,_,_,[],[],T.o8,T.La,(aak T).mono (by decide),T.Ib,.nil⟩,rfl,fun k H Q E h g q=>⟨k,_,rfl,h,g,⟨lo,hi,rfl⟩,q⟩⟩
   · exact⟨⟨_,_,_,_,[],[],T.o9,T.Lb,(aal T).mono (by decide),T.Ig,.nil⟩,rfl,fun k H Q E h g q=>⟨k,_,rfl,h,g,⟨lo,hi,rfl⟩,q⟩⟩
 | nm n=>exact⟨⟨_,_,_,_,[],[],T.Av,T.Ld,(aam T).mono (by decide),T.Ii,.nil⟩,rfl,fun k H Q E h g q=>⟨k,_,rfl,h,g,⟨n,rfl⟩,q⟩⟩
 | pk ws=>exact⟨⟨_,_,_,_,[],[],T.lK,T.Oq,(aan T).mono (by decide),T.Kq,.nil⟩,rfl,fun k H Q E h g q=>⟨k,_,rfl,h,g,⟨ws,rfl⟩,q⟩⟩
theorem Vs (T:Txt K mg A) {H:Hp}{k:Addr}{x:Kx} (h:M9 A H k x):aH K H (.ref k) (.ref (cKx A x)):=by
 cases x with
 | yn=>obtain⟨d,h⟩:=h;exact T.ZX _ _ _ _ h
 | wh m lo hi =>
   obtain⟨d,h⟩:=h
   cases m
   · exact T.ZZ _ _ _ _ h
   · exact T.Z1 _ _ _ _ h
 | nm n=>obtain⟨d,h⟩:=h;exact T.Z3 _ _ _ _ h
 | pk ws=>obtain⟨d,q,hi,h,_⟩:=h;exact T.acd _ _ _ _ h
end
abbrev oCm (A:dq) (dx:Addr) (u1 u2 u3:V):HO:=.ins A.fc dx [("name",u1),("how",u2),("number",u3)]
abbrev oIs (A:dq) (dx:Addr) (u1 u2 u3:V):HO:=.ins A.vW dx [("name",u1),("word",u2),("place",u3)]
def ai0 (A:dq):Sp:=fun vs H Q _=>∃ p dx u1 u2 u3,vs=[.ref p,u1,u2,u3]∧H p=some (.ins A.vW dx [])∧Q .non (upd H p (oIs A dx u1 u2 u3))
abbrev oCk (A:dq) (dx:Addr) (u1 u2 u3:V):HO:=.ins A.jQ dx [("name",u1),("test",u2),("firm",u3)]
abbrev oNo (A:dq) (dx:Addr) (u:V):HO:=.ins A.HN dx [("test",u)]
def cPr (A:dq) (e:Bool):Addr:=if e then A.oY else A.w5
abbrev oPr (A:dq) (e:Bool) (dx:Addr) (u v:V):HO:=.ins (cPr A e) dx [("one",u),("other",v)]
def aeS (A:dq):Sp:=fun vs H Q _=>∃ p dx u1 u2 u3,vs=[.ref p,u1,u2,u3]∧H p=some (.ins A.fc dx [])∧Q .non (upd H p (oCm A dx u1 u2 u3))
def aap (A:dq):Sp:=fun vs H Q _=>∃ p dx u1 u2 u3,vs=[.ref p,u1,u2,u3]∧H p=some (.ins A.jQ dx [])∧Q .non (upd H p (oCk A dx u1 u2 u3))
def aeT (A:dq):Sp:=fun vs H Q _=>∃ p dx u,vs=[.ref p,u]∧H p=some (.ins A.HN dx [])∧Q .non (upd H p (oNo A dx u))
def acj (A:dq):Sp:=fun vs H Q _=>∃ p e dx u v,vs=[.ref p,u,v]∧H p=some (.ins (cPr A e) dx [])∧Q .non (upd H p (oPr A e dx u v))
section
variable {P:Program}{w:World}{K:W.Frag}{mg:Str→Option Value}{base:Heap}{A:dq}
theorem Lr (T:Txt K mg A):aN P w K mg base dR 3 A.km A.kE ["self","name","test","firm"] (aap A):=by
 have pB:=Eb (P:=P) (w:=w) (base:=base) T
 refine T.BV.ok Az (fun vs H Q E h=>?_) (fun cdv A0 outer s H vs Q E hr h=>?_)
 · obtain⟨p,dx,u1,u2,u3,rfl,_⟩:=h
   rfl
 obtain⟨p,dx,u1,u2,u3,rfl,hp,q⟩:=h
 refine⟨_,(zD (yK (uA T.DY pB ‹hr› rfl T.adm T.uJ zM (zA (pv 0) (zA (pv 1) zC))))
     (zD (yQ (pv 0) (pv 2) rfl)
     (zF (yQ (pv 0) (pv 3) rfl)))),?_⟩
 refine⟨_,rfl,_,rfl,p,_,dx,u1,rfl,hp,T.uU,T.wF,?_⟩
 refine⟨_,rfl,_,rfl,p,_,dx,_,rfl,zB,T.uU,T.wG,(by show 1<1000;decide),?_⟩
 refine⟨_,rfl,_,rfl,p,_,dx,_,rfl,zB,T.uU,T.Le,(by show 2<1000;decide),?_⟩
 rw [yA,yA]
 exact q
theorem Ed (T:Txt K mg A):aN P w K mg base dR 1 A.jA A.jB ["self","name","how","number"] (aeS A):=by
 refine T.xj.ok wy (fun vs H Q E h=>?_) (fun cdv A0 outer s H vs Q E hr h=>?_)
 · obtain⟨p,dx,u1,u2,u3,rfl,_⟩:=h
   rfl
 obtain⟨p,dx,u1,u2,u3,rfl,hp,q⟩:=h
 refine⟨_,(zD (yQ (pv 0) (pv 1) rfl)
     (zD (yQ (pv 0) (pv 2) rfl)
     (zF (yQ (pv 0) (pv 3) rfl)))),?_⟩
 refine⟨_,rfl,_,rfl,p,_,dx,_,rfl,hp,T.dX,T.eN,by decide,?_⟩
 refine⟨_,rfl,_,rfl,p,_,dx,_,rfl,zB,T.dX,T.uX,(by show 1<1000;decide),?_⟩
 refine⟨_,rfl,_,rfl,p,_,dx,_,rfl,zB,T.dX,T.pW,(by show 2<1000;decide),?_⟩
 rw [yA,yA]
 exact q
theorem Rm (T:Txt K mg A):aN P w K mg base dR 1 A.oW A.oX ["self","test"] (aeT A):=by
 refine T.Jf.ok Gj (fun vs H Q E h=>?_) (fun cdv A0 outer s H vs Q E hr h=>?_)
 · obtain⟨p,dx,u,rfl,_⟩:=h
   rfl
 obtain⟨p,dx,u,rfl,hp,q⟩:=h
 refine⟨_,(zF (yQ (pv 0) (pv 1) rfl)),?_⟩
 exact⟨_,rfl,_,rfl,p,_,dx,_,rfl,hp,T.T8,T.DW,by decide,q⟩
theorem O3 (T:Txt K mg A):aN P w K mg base dR 1 A.jq A.mU ["self","one","other"] (acj A):=by
 refine T.Fx.ok CN (fun vs H Q E h=>?_) (fun cdv A0 outer s H vs Q E hr h=>?_)
 · obtain⟨p,e,dx,u,v,rfl,_⟩:=h
   rfl
 obtain⟨p,e,dx,u,v,rfl,hp,q⟩:=h
 refine⟨_,(zD (yQ (pv 0) (pv 1) rfl)
     (zF (yQ (pv 0) (pv 2) rfl))),?_⟩
 cases e with
 | false =>
   refine⟨_,rfl,_,rfl,p,_,dx,_,rfl,hp,T.GR,T.DX,by decide,?_⟩
   refine⟨_,rfl,_,rfl,p,_,dx,_,rfl,zB,T.GR,T.wH,(by show 1<1000;decide),?_⟩
   rw [yA]
   exact q
 | true =>
   refine⟨_,rfl,_,rfl,p,_,dx,_,rfl,hp,T.vN,T.wI,by decide,?_⟩
   refine⟨_,rfl,_,rfl,p,_,dx,_,rfl,zB,T.vN,T.tU,(by show 1<1000;decide),?_⟩
   rw [yA]
   exact q
theorem yl (T:Txt K mg A):aN P w K mg base dR 1 A.qw A.lJ ["self","name","word","place"] (ai0 A):=by
 refine T.Kw.ok JH (fun vs H Q E h=>?_) (fun cdv A0 outer s H vs Q E hr h=>?_)
 · obtain⟨p,dx,u1,u2,u3,rfl,_⟩:=h
   rfl
 obtain⟨p,dx,u1,u2,u3,rfl,hp,q⟩:=h
 refine⟨_,(zD (yQ (pv 0) (pv 1) rfl)
     (zD (yQ (pv 0) (pv 2) rfl)
     (zF (yQ (pv 0) (pv 3) rfl)))),?_⟩
 refine⟨_,rfl,_,rfl,p,_,dx,_,rfl,hp,T.jj,T.fK,by decide,?_⟩
 refine⟨_,rfl,_,rfl,p,_,dx,_,rfl,zB,T.jj,T.jE,(by show 1<1000;decide),?_⟩
 refine⟨_,rfl,_,rfl,p,_,dx,_,rfl,zB,T.jj,T.Ri,(by show 2<1000;decide),?_⟩
 rw [yA,yA]
 exact q
end
inductive At where
 | is (z wd:Str)
 | cm (z h:Str) (n:Int)
def At.nm:At→Str
 | .is z _=>z
 | .cm z _ _=>z
def JX (A:dq) (H:Hp) (v:V):At→Prop
 | .is z wd=>∃ a dx,v=.ref a∧H a=some (oIs A dx (.str z) (.str wd) .non)
 | .cm z h n=>∃ a dx,v=.ref a∧H a=some (oCm A dx (.str z) (.str h) (.int n))
inductive Sy where
 | c (t:At)
 | nt (s:Sy)
 | pr (e:Bool) (s t:Sy)
def Sy.at:Sy→List At
 | .c t=>[t]
 | .nt s=>s.at
 | .pr _ s t=>s.at++t.at
def Sy.dp:Sy→Nat
 | .c ..=>0
 | .nt s=>s.dp+1
 | .pr _ s t=>max s.dp t.dp+1
def Nf (A:dq) (H:Hp):Sy→V→Prop
 | .c t,v=>JX A H v t
 | .nt s,v=>∃ a dx u,v=.ref a∧H a=some (oNo A dx u)∧Nf A H s u
 | .pr e s t,v=>∃ a dx u x,v=.ref a∧H a=some (oPr A e dx u x)∧Nf A H s u∧Nf A H t x
def SyO (A:dq) (H:Hp) (v:V):Option Sy→Prop
 | none=>v=.non
 | some s=>Nf A H s v
structure Rw where
 nm:Str
 kd:Option Kx
 sy:Option Sy
def ym (A:dq) (H:Hp) (x:V) (r:Rw):Prop:=∃ (a dx:Addr) (sv:V),x=.ref a∧SyO A H sv r.sy∧match r.kd with
 | some b=>∃ k:Addr,H a=some (Ub A dx (.str r.nm) (.ref k) sv)∧M9 A H k b
 | none=>∃ b,H a=some (oCk A dx (.str r.nm) sv b)
abbrev Wy:=Str × Option Sy
def WyR (A:dq) (H:Hp) (x:V) (y:Wy):Prop:=∃ a v,x=.ref a∧H a=some (.tup [.str y.1,v])∧SyO A H v y.2
structure Sh where
 nm:Str
 ea:Option Str
 rows:List Rw
 ways:List Wy
def ShR (A:dq) (H:Hp) (x:V) (t:Sh):Prop:=∃ a dx r y xs ys,x=.ref a∧H a=some (oSh A dx (.str t.nm) (nv t.ea) r y)∧H r=some (.lst xs)∧H y=some (.lst ys)∧Paired (ym A H) xs t.rows∧Paired (WyR A H) ys t.ways
def O5 (A:dq) (H:Hp) (a:Addr) (sh:List Sh) (ts:List rD):Prop:=∃ dx u q1 q2 xs,H a=some (oPa A dx u q1 q2)∧H q1=some (.lst xs)∧Paired (ShR A H) xs sh∧TsR H q2 ts
def Lk (H H':Hp):Prop:=∀ b o,H b=some o→(∀ z,o≠.lst z)→H' b=some o
theorem Lk.of {H H':Hp} (s:az H H'):Lk H H':=fun b o h _=>s b o h
theorem Lk.upd {H:Hp}{l:Addr}{zs us:List V} (hl:H l=some (.lst zs)):Lk H (L2.upd H l (.lst us)):=fun b o hb hn=>by
 rw [zL (fun e=>by rw [e,hl] at hb;cases hb;exact hn _ rfl)];exact hb
theorem JX.lk {A:dq}{H H':Hp} (s:Lk H H') {v:V}:∀ {a:At},JX A H v a→JX A H' v a
 | .is ..,h=>let ⟨a,d,e,h1⟩:=h; ⟨a,d,e,s _ _ h1 (by intro z e;cases e)⟩
 | .cm ..,h=>let ⟨a,d,e,h1⟩:=h; ⟨a,d,e,s _ _ h1 (by intro z e;cases e)⟩
theorem Nf.lk {A:dq}{H H':Hp} (s:Lk H H'):∀ {y:Sy}{v:V},Nf A H y v→Nf A H' y v
 | .c _,_,h=>JX.lk s h
 | .nt _,_,h=>let ⟨a,d,u,e,h1,h2⟩:=h; ⟨a,d,u,e,s _ _ h1 (by intro z e;cases e),h2.lk s⟩
 | .pr ..,_,h=>let ⟨a,d,u,x,e,h1,h2,h3⟩:=h; ⟨a,d,u,x,e,s _ _ h1 (by intro z e;cases e),h2.lk s,h3.lk s⟩
theorem JX.same {A:dq}{H H':Hp} (s:az H H') {a:At}{v:V} (h:JX A H v a):JX A H' v a:=h.lk (.of s)
theorem Nf.same {A:dq}{H H':Hp} (s:az H H') {y:Sy}{v:V} (h:Nf A H y v):Nf A H' y v:=h.lk (.of s)
theorem SyO.same {A:dq}{H H':Hp} (s:az H H') {v:V}:∀ {o:Option Sy},SyO A H v o→SyO A H' v o
 | none,h=>h
 | some _,h=>Nf.same s h
theorem ym.same {A:dq}{H H':Hp} (s:az H H') {x:V}{r:Rw} (h:ym A H x r):ym A H' x r:=by
 obtain⟨a,dx,sv,e,h1,h2⟩:=h
 refine⟨a,dx,sv,e,h1.same s,?_⟩
 obtain⟨n,k,y⟩:=r
 cases k with
 | none=>obtain⟨b,h2⟩:=h2;exact⟨b,s _ _ h2⟩
 | some b=>obtain⟨k,h2,h3⟩:=h2;exact⟨k,s _ _ h2,h3.same s⟩
theorem WyR.same {A:dq}{H H':Hp} (s:az H H') {x:V}{y:Wy} (h:WyR A H x y):WyR A H' x y:=by
 obtain⟨a,v,e,h1,h2⟩:=h
 exact⟨a,v,e,s _ _ h1,h2.same s⟩
theorem ShR.same {A:dq}{H H':Hp} (s:az H H') {x:V}{t:Sh} (h:ShR A H x t):ShR A H' x t:=by
 obtain⟨a,dx,r,y,xs,ys,e,h1,h2,h3,h4,h5⟩:=h
 exact⟨a,dx,r,y,xs,ys,e,s _ _ h1,s _ _ h2,s _ _ h3,zJ h4 fun _ _ q=>q.same s,zJ h5 fun _ _ q=>q.same s⟩
theorem O5.same {A:dq}{H H':Hp} (s:az H H') {a:Addr}{sh:List Sh}{ts:List rD} (h:O5 A H a sh ts):O5 A H' a sh ts:=by
 obtain⟨dx,u,q1,q2,xs,h1,h2,h3,h4⟩:=h
 exact⟨dx,u,q1,q2,xs,s _ _ h1,s _ _ h2,zJ h3 fun _ _ q=>q.same s,h4.kp (.of s)⟩
abbrev Flt:=Bool × Str
def Vt:Option Flt→List V
 | none=>[.str ‹"none"›,.str ‹"None"›]
 | some (false,z)=>[.str ‹"unknown"›,.str z]
 | some (true,z)=>[.str ‹"wrong"›,.str z]
def O6 (H:Hp) (x:V) (f:Option Flt):Prop:=∃ t,x=.ref t∧H t=some (.tup (Vt f))
theorem O6.lk {H H':Hp} (s:Lk H H') {x:V}{f:Option Flt} (h:O6 H x f):O6 H' x f:=by
 obtain⟨t,e,h1⟩:=h
 exact⟨t,e,s _ _ h1 (by intro z e;cases e)⟩
section
variable {K:W.Frag}{mg:Str→Option Value}{A:dq}
theorem JX.fld (T:Txt K mg A) {H:Hp}{v:V}{t:At} (h:JX A H v t):∃ a C dx fs,v=.ref a∧H a=some (.ins C dx fs)∧zg K C∧aO K C "name"∧fs.lookup ‹"name"› = some (.str t.nm):=by
 cases t with
 | is z wd=>obtain⟨a,dx,e,h⟩:=h;exact⟨a,_,dx,_,e,h,T.jj,T.fK,rfl⟩
 | cm z h' n=>obtain⟨a,dx,e,h⟩:=h;exact⟨a,_,dx,_,e,h,T.dX,T.eN,rfl⟩
end
def AtQ (A:dq) (H:Hp) (zs:List At) (Q:VK):Prop:=zs.length≤100∧∀ l xs H',az H H'→H' l=some (.lst xs)→Paired (JX A H') xs zs→Q (.ref l) H'
def Xb (A:dq) (o:Bool):Sp:=fun vs H Q _=>∃ v t,vs=[v]∧JX A H v t∧(match t with | .is ..=>true | .cm ..=>false)=o∧AtQ A H [t] Q
def aeU (A:dq) (n:Nat):Sp:=fun vs H Q _=>∃ (a dx:Addr) (u:V) (s:Sy),vs=[.ref a]∧H a=some (oNo A dx u)∧Nf A H s u∧s.dp<n∧AtQ A H s.at Q
def aar (A:dq) (n:Nat):Sp:=fun vs H Q _=>∃ (e:Bool) (a dx:Addr) (u x:V) (s t:Sy),vs=[.ref a]∧H a=some (oPr A e dx u x)∧Nf A H s u∧Nf A H t x∧s.dp<n∧t.dp<n∧AtQ A H (s.at++t.at) Q
structure AOk (P:Program) (w:World) (K:W.Frag) (mg:Str→Option Value) (base:Heap) (A:dq) (n k:Nat):Prop where
 a:aN P w K mg base dR k A.jO A.jP ["self"] (Xb A true)
 b:aN P w K mg base dR k A.fV A.fW ["self"] (Xb A false)
 c:aN P w K mg base dR k A.jh A.ji ["self"] (aeU A n)
 d:aN P w K mg base dR k A.fD A.gH ["self"] (aar A n)
section
variable {P:Program}{w:World}{K:W.Frag}{mg:Str→Option Value}{base:Heap}{A:dq}
theorem ack (T:Txt K mg A) {n k:Nat} (ih:AOk P w K mg base A n k) {s:Sy}{x:V}{H:Hp} (hs:Nf A H s x) (hd:s.dp≤n) :
   ∃ (a C dx:Addr) (fs:List (Str × V)) (M:jg P w K mg base dR k C "atoms"),x=.ref a∧H a=some (.ins C dx fs)∧fs.lookup ‹"atoms"› = none∧M.vR=[]∧∀ Q E,AtQ A H s.at Q→M.sp [x] H Q E:=by
 cases s with
 | c t =>
   cases t with
   | is z wd =>
     obtain⟨a,dx,rfl,h1⟩:=id hs
     exact⟨a,_,dx,_,⟨A.jO,A.jP,["self"],Xb A true,[],[],T.jj,T.Rh,ih.a,T.Od,.nil⟩,rfl,h1,rfl,rfl,fun Q E hq=>⟨_,.is z wd,rfl,hs,rfl,hq⟩⟩
   | cm z h m =>
     obtain⟨a,dx,rfl,h1⟩:=id hs
     exact⟨a,_,dx,_,⟨A.fV,A.fW,["self"],Xb A false,[],[],T.dX,T.Cy,ih.b,T.Ah,.nil⟩,rfl,h1,rfl,rfl,fun Q E hq=>⟨_,.cm z h m,rfl,hs,rfl,hq⟩⟩
 | nt s =>
   obtain⟨a,dx,u,rfl,h1,h2⟩:=id hs
   have hd':s.dp+1≤n:=hd
   exact⟨a,_,dx,_,⟨A.jh,A.ji,["self"],aeU A n,[],[],T.T8,T.Ox,ih.c,T.KC,.nil⟩,rfl,h1,rfl,rfl,fun Q E hq=>⟨a,dx,u,s,rfl,h1,h2,by omega,hq⟩⟩
 | pr e s t =>
   obtain⟨a,dx,u,y,rfl,h1,h2,h3⟩:=id hs
   have hd':max s.dp t.dp+1≤n:=hd
   have key:∀ Q E,AtQ A H (Sy.pr e s t).at Q→aar A n [.ref a] H Q E:=fun Q E hq=>⟨e,a,dx,u,y,s,t,rfl,h1,h2,h3,by omega,by omega,hq⟩
   cases e with
   | false=>exact⟨a,_,dx,_,⟨A.fD,A.gH,["self"],aar A n,[],[],T.GR,T.Lh,ih.d,T.uN,.nil⟩,rfl,h1,rfl,rfl,key⟩
   | true=>exact⟨a,_,dx,_,⟨A.fD,A.gH,["self"],aar A n,[],[],T.vN,T.FT,ih.d,T.uN,.nil⟩,rfl,h1,rfl,rfl,key⟩
theorem Ef (T:Txt K mg A) {k:Nat}:aN P w K mg base dR (k+1) A.jO A.jP ["self"] (Xb A true):=by
 refine T.Oc.ok Li (fun vs H Q E h=>?_) (fun cdv A0 outer s H vs Q E hr h=>?_)
 · obtain⟨v,t,rfl,_⟩:=h
   rfl
 obtain⟨v,t,rfl,h1,ho,_,q⟩:=h
 refine⟨_,(zF (zR (yM (zA (pv 0) zC)))),?_⟩
 refine⟨_,rfl,(by show 1≤sizeLine;decide),fun p hp=>?_⟩
 have sp:=zG hp (.lst [v])
 exact q p _ _ sp zB (.cons (h1.same sp) .nil)
theorem Eg (T:Txt K mg A) {k:Nat}:aN P w K mg base dR (k+1) A.fV A.fW ["self"] (Xb A false):=by
 refine T.Ag.ok yj (fun vs H Q E h=>?_) (fun cdv A0 outer s H vs Q E hr h=>?_)
 · obtain⟨v,t,rfl,_⟩:=h
   rfl
 obtain⟨v,t,rfl,h1,ho,_,q⟩:=h
 refine⟨_,(zF (zR (yM (zA (pv 0) zC)))),?_⟩
 refine⟨_,rfl,(by show 1≤sizeLine;decide),fun p hp=>?_⟩
 have sp:=zG hp (.lst [v])
 exact q p _ _ sp zB (.cons (h1.same sp) .nil)
theorem Rn (T:Txt K mg A) {n ka:Nat} (ih:AOk P w K mg base A n ka):aN P w K mg base dR (ka+1) A.jh A.ji ["self"] (aeU A (n+1)):=by
 refine T.Kz.ok JK (fun vs H Q E h=>?_) (fun cdv A0 outer s H vs Q E hr h=>?_)
 · obtain⟨a,dx,u,s,rfl,_⟩:=h
   rfl
 obtain⟨a,dx,u,y,rfl,h,h2,hd,q⟩:=h
 refine⟨_,(zF (zR (xU (CX:=dR) (k:=ka) ‹hr› zM (zN (pv 0) rfl)))),?_⟩
 obtain⟨a1,C1,dx1,fs1,M,ey,h1,hl,hdv,hsp⟩:=ack T ih h2 (by omega)
 refine⟨_,rfl,a,_,dx,_,_,rfl,h,T.T8,T.DW,rfl,a1,C1,dx1,fs1,M,ey,h1,hl,?_⟩
 dsimp only [J0]
 rw [hdv]
 exact hsp _ _ q
theorem Ro (T:Txt K mg A) {n ka:Nat} (ih:AOk P w K mg base A n ka):aN P w K mg base dR (ka+1) A.fD A.gH ["self"] (aar A (n+1)):=by
 refine T.Jg.ok Gk (fun vs H Q E h=>?_) (fun cdv A0 outer s H vs Q E hr h=>?_)
 · obtain⟨e,a,dx,u,x,s,t,rfl,_⟩:=h
   rfl
 obtain⟨o,a,dx,u,x,y,z,rfl,h,hs1,hs2,d1,d2,hz,q⟩:=h
 refine⟨_,(zF (zR (zP rH (xU (CX:=dR) (k:=ka) ‹hr› zM (zN (pv 0) rfl)) (xU (CX:=dR) (k:=ka) ‹hr› zM (zN (pv 0) rfl))))),?_⟩
 have cl:zg K (cPr A o)∧aO K (cPr A o) "one"∧aO K (cPr A o) "other":=by
   cases o
   · exact⟨T.GR,T.DX,T.wH⟩
   · exact⟨T.vN,T.wI,T.tU⟩
 rw [List.length_append] at hz
 obtain⟨a1,C1,dx1,fs1,M,ey,h1,hl,hdv,hsp⟩:=ack T ih hs1 (by omega)
 refine⟨_,rfl,a,_,dx,_,_,rfl,h,cl.1,cl.2.1,rfl,a1,C1,dx1,fs1,M,ey,h1,hl,?_⟩
 dsimp only [J0]
 rw [hdv]
 refine hsp _ _ ⟨by omega,fun l1 ys1 H1 s1 e1 p1=>?_⟩
 obtain⟨a2,C2,dx2,fs2,M2,ez,h2,hl2,avN,Rp⟩:=ack T ih (hs2.same s1) (by omega)
 refine⟨_,rfl,a,_,dx,_,_,rfl,s1 _ _ h,cl.1,cl.2.2,rfl,a2,C2,dx2,fs2,M2,ez,h2,hl2,?_⟩
 dsimp only [J0]
 rw [avN]
 refine Rp _ _ ⟨by omega,fun l2 ys2 H2 s2 e2 p2=>?_⟩
 refine⟨l1,l2,ys1,ys2,rfl,rfl,s2 _ _ e1,e2,?_,fun p hp=>?_⟩
 · rw [zK p1,zK p2,sizeLine_eq];omega
 have s3:=zG hp (.lst (ys1++ys2))
 exact q p _ _ (s1.trans (s2.trans s3)) zB (yE (zJ p1 fun _ _ r=>r.same (s2.trans s3)) (zJ p2 fun _ _ r=>r.same s3))
theorem Rq (T:Txt K mg A):∀ n:Nat,AOk P w K mg base A n (n+1)
 | 0=>by
   refine⟨Ef T,Eg T,⟨fun vs H Q E h=>?_,fun _ _ _ _ _ _ _ _ _ _ _ _ _ h=>?_⟩,⟨fun vs H Q E h=>?_,fun _ _ _ _ _ _ _ _ _ _ _ _ _ h=>?_⟩⟩
   · obtain⟨a,dx,u,s,rfl,_,_,hd,_⟩:=h;exact absurd hd (by omega)
   · obtain⟨a,dx,u,s,rfl,_,_,hd,_⟩:=h;exact absurd hd (by omega)
   · obtain⟨e,a,dx,u,x,s,t,rfl,_,_,_,hd,_⟩:=h;exact absurd hd (by omega)
   · obtain⟨e,a,dx,u,x,s,t,rfl,_,_,_,hd,_⟩:=h;exact absurd hd (by omega)
 | n+1 =>
   have ih:=Rq T n
   ⟨Ef T,Eg T,Rn T ih,Ro T ih⟩
def atO:Option Sy→List At
 | none=>[]
 | some s=>s.at
def GO (o:Option Sy):Prop:=∀ s,o=some s→s.dp≤4∧s.at.length≤100
def aco (A:dq):Sp:=fun vs H Q _=>∃ v o,vs=[v]∧SyO A H v o∧GO o∧∀ l xs H',az H H'→H' l=some (.lst xs)→Paired (JX A H') xs (atO o)→Q (.ref l) H'
theorem Eh (T:Txt K mg A):aN P w K mg base dR 7 A.rR A.wU ["saying"] (aco A):=by
 refine T.Tv.ok Rj (fun vs H Q E h=>?_) (fun cdv A0 outer s H vs Q E hr h=>?_)
 · obtain⟨v,o,rfl,_⟩:=h
   rfl
 obtain⟨v,o,rfl,hS,hG,q⟩:=h
 obtain⟨ka,hka⟩:∃ ka:Nat,ka=5:=⟨_,rfl⟩
 refine⟨_,(zF (zR (ur (zV XQ (pv 0) mq (yD _)) (yM zC) (xU (CX:=dR) (k:=ka) ‹hr› zM (pv 0))))),?_⟩
 subst hka
 cases o with
 | none =>
   cases (show v=.non from hS)
   exact⟨_,rfl,rfl,_,rfl,cJ ⟨(by show 0≤sizeLine;decide),fun l hl=>q l [] _ (zG hl _) zB .nil⟩⟩
 | some y =>
   have hv:∃ a,v=.ref a:=by
     cases y with
     | c t =>
       cases t with
       | is z wd=>obtain⟨a,_,rfl,_⟩:=hS;exact⟨a,rfl⟩
       | cm z h n=>obtain⟨a,_,rfl,_⟩:=hS;exact⟨a,rfl⟩
     | nt s=>obtain⟨a,_,_,rfl,_⟩:=hS;exact⟨a,rfl⟩
     | pr e s t=>obtain⟨a,_,_,_,rfl,_⟩:=hS;exact⟨a,rfl⟩
   obtain⟨a,rfl⟩:=hv
   obtain⟨g1,g2⟩:=hG y rfl
   obtain⟨a1,C1,dx1,fs1,M,ey,h1,hl,hdv,hsp⟩:=ack T (Rq (P:=P) (w:=w) (base:=base) T 4) (show Nf A H y (.ref a) from hS) g1
   refine⟨_,rfl,rfl,_,rfl,bD ⟨_,rfl,a1,C1,dx1,fs1,M,ey,h1,hl,?_⟩⟩
   dsimp only [J0]
   rw [hdv]
   exact hsp _ _ ⟨g2,q⟩
end
def kfS (f:Str→Option Kx) (r:Rw):Str→Option Kx:=match r.kd with
 | some x=>fun z=>if z=r.nm then some x else f z
 | none=>f
def Vu (rs:List Rw):Str→Option Kx:=rs.foldl kfS fun _=>none
theorem JM (rs:List Rw) (r:Rw):Vu (rs++[r])=kfS (Vu rs) r:=by unfold Vu;rw [List.foldl_append];rfl
def KV1 (A:dq) (H:Hp) (kvs:List (Key × V)) (z:Str):Option Kx→Prop
 | none=>dW kvs (.inr z)=none
 | some x=>∃ k,dW kvs (.inr z)=some (.ref k)∧M9 A H k x
def KD (A:dq) (H:Hp) (kvs:List (Key × V)) (f:Str→Option Kx):Prop:=∀ z,KV1 A H kvs z (f z)
theorem KD.same {A:dq}{H H':Hp} (s:az H H') {kvs:List (Key × V)}{f:Str→Option Kx} (h:KD A H kvs f):KD A H' kvs f:=fun z=>by
 have:=h z
 cases e:f z with
 | none=>rw [e] at this;exact this
 | some x=>rw [e] at this;obtain⟨k,h1,h2⟩:=this;exact⟨k,h1,h2.same s⟩
def Kd (A:dq) (H:Hp) (kvs:List (Key × V)) (rs:List Rw):Prop:=kvs.length≤rs.length∧KD A H kvs (Vu rs)
theorem Kd.nil {A:dq}{H:Hp}:Kd A H [] []:=⟨Nat.le_refl _,fun z=>rfl⟩
theorem Kd.put {A:dq}{H:Hp}{kvs:List (Key × V)}{rs:List Rw} (h:Kd A H kvs rs) {r:Rw}{k:Addr}{x:Kx} (hk:M9 A H k x) (hr:r.kd=some x):Kd A H (putK kvs (.inr r.nm) (.ref k)) (rs++[r]):=by
 refine⟨Nat.le_trans (xK ..) (by rw [List.length_append,List.length_singleton];have:=h.1;omega),fun y=>?_⟩
 have e0:Vu (rs++[r]) y=if y=r.nm then some x else Vu rs y:=by rw [JM];unfold kfS;rw [hr]
 rw [e0]
 by_cases e:y=r.nm
 · rw [if_pos e]
   exact⟨k,by rw [lO,if_pos (by rw [e])],hk⟩
 · rw [if_neg e]
   have hn:(Sum.inr y:Key)≠.inr r.nm:=fun z=>e (Sum.inr.inj z)
   have:=h.2 y
   cases e1:Vu rs y with
   | none=>rw [e1] at this;show dW _ _=none;rw [lO,if_neg hn];exact this
   | some x'=>rw [e1] at this;obtain⟨k',h1,h2⟩:=this;exact⟨k',by rw [lO,if_neg hn];exact h1,h2⟩
theorem Kd.skip {A:dq}{H:Hp}{kvs:List (Key × V)}{rs:List Rw} (h:Kd A H kvs rs) {r:Rw} (hr:r.kd=none):Kd A H kvs (rs++[r]) :=
 ⟨by rw [List.length_append];have:=h.1;omega,by rw [JM];unfold kfS;rw [hr];exact h.2⟩
def allR (sh:List Sh):List Rw:=sh.flatMap (·.rows)
theorem Xc {sh:List Sh}{i:Nat}{t:Sh} (h:sh[i]? = some t):allR (sh.take (i+1))=allR (sh.take i)++t.rows:=by
 unfold allR;rw [yJ h,List.flatMap_append];simp
def nms (t:Sh):List Str:=t.nm::t.rows.map (·.nm)
def yo (sh:List Sh):List Str:=sh.flatMap nms
theorem Xd {sh:List Sh}{i:Nat}{t:Sh} (h:sh[i]? = some t):yo (sh.take (i+1))=yo (sh.take i)++nms t:=by
 unfold yo;rw [yJ h,List.flatMap_append];simp
def GP (sh:List Sh) (ts:List rD):Prop:=sh.length≤10∧(∀ t∈sh,t.rows.length≤10∧t.ways.length≤10)∧ts.length≤100∧∀ t∈ts,t.2.length≤100
theorem O7 {sh:List Sh} (h:∀ t∈sh,t.rows.length≤10∧t.ways.length≤10):(yo sh).length≤11*sh.length:=by
 induction sh with
 | nil=>exact Nat.le_refl _
 | cons a r ih =>
   have:=ih fun t ht=>h t (List.mem_cons_of_mem _ ht)
   have h1:=(h a (List.mem_cons_self ..)).1
   unfold yo at this ⊢
   rw [List.flatMap_cons,List.length_append,List.length_cons]
   show (a.rows.map (·.nm)).length+1+_≤_
   rw [List.length_map];omega
theorem Vv {sh:List Sh} (h:∀ t∈sh,t.rows.length≤10∧t.ways.length≤10):(allR sh).length≤10*sh.length:=by
 induction sh with
 | nil=>exact Nat.le_refl _
 | cons a r ih =>
   have:=ih fun t ht=>h t (List.mem_cons_of_mem _ ht)
   have h1:=(h a (List.mem_cons_self ..)).1
   unfold allR at this ⊢
   rw [List.flatMap_cons,List.length_append,List.length_cons];omega
def acp (A:dq):Sp:=fun vs H Q _=>∃ a sh ts,vs=[.ref a]∧O5 A H a sh ts∧GP sh ts∧∀ d kvs H',az H H'→H' d=some (.dK kvs)→Kd A H kvs (allR sh)→Q (.ref d) H'
def acq (A:dq):Sp:=fun vs H Q _=>∃ a sh ts,vs=[.ref a]∧O5 A H a sh ts∧GP sh ts∧∀ l H',az H H'→H' l=some (.lst ((yo sh++ts.map (·.1)).map V.str))→Q (.ref l) H'
section
variable {P:Program}{w:World}{K:W.Frag}{mg:Str→Option Value}{base:Heap}{A:dq}
theorem Rr (T:Txt K mg A):aN P w K mg base dR 1 A.rP A.wR ["paper"] (acp A):=by
 refine T.Tn.ok pX (fun vs H Q E h=>?_) (fun cdv A0 outer s H vs Q E hr h=>?_)
 · obtain⟨a,sh,ts,rfl,_⟩:=h
   rfl
 obtain⟨a,sh,ts,rfl,hP,hG,q⟩:=h
 refine⟨_,(zD (zS (i:=1) pX.nd rfl ‹0› zm)
     (zD (yT PassesOwn.never rfl (yO (zN (pv 0) rfl)) (zX (i:=2) pX.nd rfl ‹0›) (zF (yT PassesOwn.never rfl (yO (zN (pv 2) rfl)) (zX (i:=3) pX.nd rfl ‹0›) (zF (yF (yZ (zY yH (by rfl) T.aD Bt.isinstance (zA (pv 3) (zA (xN rfl T.ZR) zC)))) (zF (Gz (xD hr) (pv 1) (zN (pv 3) rfl) (zN (pv 3) rfl) rfl)) zU)))))
     (zF (zR (pv 1))))),?_⟩
 intro d hd
 obtain⟨dx,u,q1,q2,xs,p1,p2,p3,p4⟩:=hP
 have s0:=zG hd (.dK [])
 have lxs:=zK p3
 have hle:=Vv hG.2.1
 have h10:=hG.1
 refine⟨_,rfl,a,_,dx,_,_,rfl,s0 _ _ p1,T.dU,T.cu,(by rw [Px (by symm)]),q1,rfl,⟨_,cB.of (s0 _ _ p2)⟩,?_⟩
 refine yR (xs:=xs) (fun i σ G=>∃ u v kvs,σ=[some (.ref a),some (.ref d),u,v]∧Fr [d] (upd H d (.dK [])) G∧G d=some (.dK kvs)∧Kd A H kvs (allR (sh.take i))) ⟨_,_,[],rfl,Fr.of (az.refl _),zB,Kd.nil⟩ (fun i σ G hi hw=>?_) (fun i x σ G hx hw=>?_) (fun σ G hw=>?_)
 · obtain⟨u,v,kvs,rfl,F,_⟩:=hw
   exact cB.of (F _ _ (s0 _ _ p2) (Bc (zI p2 hd)))
 · obtain⟨u,v,kvs,rfl,F,hd',hK⟩:=hw
   obtain⟨t,ht,sa,Ng,r,y,rs,ys,rfl,a1,a2,a3,a4,a5⟩:=zW p3 hx
   have htl:=(hG.2.1 t (List.mem_of_getElem? ht)).1
   have nn:∀ {b:Addr}{o:HO},H b=some o→G b=some o:=fun {b o} hb=>F _ _ (s0 _ _ hb) (Bc (zI hb hd))
   refine⟨_,rfl,sa,_,Ng,_,_,rfl,nn a1,T.dJ,T.gD,rfl,r,rfl,⟨_,cB.of (nn a2)⟩,?_⟩
   refine yR (xs:=rs) (fun j σ G=>∃ v kvs,σ=[some (.ref a),some (.ref d),some (.ref sa),v]∧Fr [d] (upd H d (.dK [])) G∧G d=some (.dK kvs)∧Kd A H kvs (allR (sh.take i)++t.rows.take j)) ⟨_,kvs,rfl,F,hd',by rw [List.take_zero,List.append_nil];exact hK⟩ (fun j σ G2 hj hw=>?_) (fun j x σ G2 hx2 hw=>?_) (fun σ G2 hw=>?_)
   · obtain⟨v,kvs,rfl,F,_⟩:=hw
     exact cB.of (F _ _ (s0 _ _ a2) (Bc (zI a2 hd)))
   · obtain⟨v,kvs,rfl,F,hd',hK⟩:=hw
     obtain⟨vU,Bu,ra,rdx,sv,rfl,hsy,hrr⟩:=zW a4 hx2
     have nn:∀ {b:Addr}{o:HO},H b=some o→G2 b=some o:=fun {b o} hb=>F _ _ (s0 _ _ hb) (Bc (zI hb hd))
     have hkl:kvs.length≤200:=by
       have h1:=hK.1
       rw [List.length_append,List.length_take] at h1
       have h2:=Vv (sh:=sh.take i) fun t ht=>hG.2.1 t (List.mem_of_mem_take ht)
       rw [List.length_take] at h2
       omega
     rw [yJ Bu]
     rw [← List.append_assoc]
     cases ho:vU.kd with
     | some b =>
       rw [ho] at hrr
       obtain⟨kd,b1,b2⟩:=hrr
       refine⟨_,rfl,_,_,_,_,rfl,rfl,.old (T.T6 G2 ra rdx _ (nn b1)),T.yd,_,rfl,cJ ?_⟩
       refine⟨_,rfl,ra,_,rdx,_,_,rfl,nn b1,T.uT,T.DQ,rfl,_,rfl,_,rfl,ra,_,rdx,_,_,rfl,nn b1,T.uT,T.pU,rfl,d,_,rfl,J5.k (k:=.inr vU.nm) hd' (zZ (m:=1000) (by omega)),?_⟩
       exact⟨_,_,rfl,F.upd (List.mem_singleton.mpr rfl) _,zB,hK.put b2 ho⟩
     | none =>
       rw [ho] at hrr
       obtain⟨b,b1⟩:=hrr
       refine⟨_,rfl,_,_,_,_,rfl,rfl,.old (T.JB G2 ra rdx _ (nn b1)),T.sS,_,rfl,bD ?_⟩
       exact⟨_,kvs,rfl,F,hd',hK.skip ho⟩
   · obtain⟨v,kvs,rfl,F,hd',hK⟩:=hw
     rw [zK a4,List.take_length,← Xc ht] at hK
     exact⟨_,_,kvs,rfl,F,hd',hK⟩
 · obtain⟨u,v,kvs,rfl,F,hd',hK⟩:=hw
   rw [lxs,List.take_length] at hK
   exact⟨_,rfl,q d kvs G (fun b o hb=>F _ _ (s0 _ _ hb) (Bc (zI hb hd))) hd' hK⟩
theorem JN (T:Txt K mg A):aN P w K mg base dR 1 A.lH A.qu ["paper"] (acq A):=by
 refine T.Kr.ok pq (fun vs H Q E h=>?_) (fun cdv A0 outer s H vs Q E hr h=>?_)
 · obtain⟨a,sh,ts,rfl,_⟩:=h
   rfl
 obtain⟨a,sh,ts,rfl,hP,hG,q⟩:=h
 refine⟨_,(zD (zS (i:=1) pq.nd rfl ‹0› (yM zC))
     (zD (yT PassesOwn.never rfl (yO (zN (pv 0) rfl)) (zX (i:=2) pq.nd rfl ‹0›) (zD (yK (uw PySem.F.plainAttrs_list PySem.F.slot_list_append PySem.F.type_list_append nH (pv 1) (zA (zN (pv 2) rfl) zC)))
     (zF (yK (uw PySem.F.plainAttrs_list PySem.F.slot_list_extend PySem.F.type_list_extend V7 (pv 1) (zA (z9 (xA (x:="row") (M:=["paper","names","sheet"]) rfl (by rfl)) rfl (yO (zN (pv 2) rfl)) (fun _ _ _ _=>lU) (fun _ _ _ _=>N5 (by exact (zN (pv 0) rfl)) (by dsimp only [iW] <;> rfl))) zC))))))
     (zF (zR (zP rH (pv 1) (nQ (xJ (xA (x:="name") (M:=["paper","names","sheet"]) rfl (by rfl)) (by rfl) (by symm)) rfl (yO (zN (pv 0) rfl)) (fun _ _ _ _=>lU) (fun _ _ _ _=>(pv 0)))))))),?_⟩
 refine⟨(by show 0≤sizeLine;decide),fun d hd=>?_⟩
 obtain⟨dx,u,q1,q2,xs,p1,p2,p3,p4⟩:=hP
 have s0:=zG hd (.lst [])
 have lxs:=zK p3
 have h10:=hG.1
 refine⟨_,rfl,a,_,dx,_,_,rfl,s0 _ _ p1,T.dU,T.cu,(by rw [Px (by symm)]),q1,rfl,⟨_,cB.of (s0 _ _ p2)⟩,?_⟩
 refine yR (xs:=xs) (fun i σ G=>∃ u,σ=[some (.ref a),some (.ref d),u]∧Fr [d] (upd H d (.lst [])) G∧G d=some (.lst ((yo (sh.take i)).map V.str))) ⟨_,rfl,Fr.of (az.refl _),zB⟩ (fun i σ G hi hw=>?_) (fun i x σ G hx hw=>?_) (fun σ G hw=>?_)
 · obtain⟨u,rfl,F,_⟩:=hw
   exact cB.of (F _ _ (s0 _ _ p2) (Bc (zI p2 hd)))
 · obtain⟨u,rfl,F,hd'⟩:=hw
   obtain⟨t,ht,sa,Ng,r,y,rs,ys,rfl,a1,a2,a3,a4,a5⟩:=zW p3 hx
   have htl:=(hG.2.1 t (List.mem_of_getElem? ht)).1
   have hnl:((yo (sh.take i)).map V.str).length≤110:=by
     rw [List.length_map]
     have h2:=O7 (sh:=sh.take i) fun t ht=>hG.2.1 t (List.mem_of_mem_take ht)
     rw [List.length_take] at h2
     omega
   have nn:∀ {b:Addr}{o:HO},H b=some o→G b=some o:=fun {b o} hb=>F _ _ (s0 _ _ hb) (Bc (zI hb hd))
   refine⟨_,rfl,.inl ⟨rfl,_,cB.of hd'⟩,_,rfl,sa,_,Ng,_,_,rfl,nn a1,T.dJ,T.qC,rfl,d,_,_,rfl,rfl,hd',zZ (m:=1000) (by omega),?_⟩
   have F2:=F.upd (List.mem_singleton.mpr rfl) (.lst ((yo (sh.take i)).map V.str++[V.str t.nm]))
   have h2:(upd G d (.lst ((yo (sh.take i)).map V.str++[V.str t.nm]))) d=some (.lst ((yo (sh.take i)).map V.str++[V.str t.nm])):=zB
   have nn2:∀ {b:Addr}{o:HO},H b=some o→(upd G d (.lst ((yo (sh.take i)).map V.str++[V.str t.nm]))) b=some o:=fun {b o} hb=>F2 _ _ (s0 _ _ hb) (Bc (zI hb hd))
   generalize upd G d (.lst ((yo (sh.take i)).map V.str++[V.str t.nm]))=G2 at F2 h2 nn2
   have sG2:az H G2:=fun b o hb=>nn2 hb
   refine⟨_,rfl,.inl ⟨rfl,_,cB.of h2⟩,_,rfl,sa,_,Ng,_,_,rfl,nn2 a1,T.dJ,T.gD,rfl,r,rfl,⟨_,cB.of (nn2 a2)⟩,?_⟩
   refine wO (xs:=rs) (zZ (m:=100) (by rw [zK a4];omega)) (fun j zs G3=>G2=G3∧zs=((t.rows.take j).map (·.nm)).map V.str) ⟨rfl,rfl⟩ (fun j zs G3 hw=>hw.1 ▸ cB.of (nn2 a2)) (fun j x zs G3 hx2 _ hw=>?_) (fun zs G3 hw p hp=>?_)
   · obtain⟨rfl,rfl⟩:=hw
     obtain⟨vU,Bu,ra,rdx,sv,rfl,hsy,hrr⟩:=zW a4 hx2
     rw [yJ Bu,List.map_append,List.map_append]
     cases ho:vU.kd with
     | some b =>
       rw [ho] at hrr
       obtain⟨kd,b1,b2⟩:=hrr
       exact nu ⟨_,rfl,ra,_,rdx,_,_,rfl,nn2 b1,T.uT,T.pU,rfl,rfl,rfl⟩
     | none =>
       rw [ho] at hrr
       obtain⟨b,b1⟩:=hrr
       exact nu ⟨_,rfl,ra,_,rdx,_,_,rfl,nn2 b1,T.uU,T.wF,rfl,rfl,rfl⟩
   · obtain⟨rfl,rfl⟩:=hw
     rw [zK a4,List.take_length]
     have sp:=zG hp (.lst ((t.rows.map (·.nm)).map V.str))
     have e1:((t.rows.map (·.nm)).map V.str).length=t.rows.length:=by rw [List.length_map,List.length_map]
     refine⟨d,p,_,_,rfl,rfl,sp _ _ h2,zB,(by rw [List.length_append,e1,sizeLine_eq,List.length_singleton];omega),?_⟩
     refine⟨_,rfl,(F2.trans (Fr.of sp)).upd (List.mem_singleton.mpr rfl) _,?_⟩
     rw [zB,Xd ht,List.map_append]
     unfold nms
     rw [List.map_cons,List.append_assoc];rfl
 · obtain⟨u,rfl,F,hd'⟩:=hw
   rw [lxs,List.take_length] at hd'
   have sH:az H G:=fun b o hb=>F _ _ (s0 _ _ hb) (Bc (zI hb hd))
   obtain⟨zs,hz1,hz2⟩:=p4.kp (.of sH)
   have lz:=zK hz2
   have h100:=hG.2.2.1
   have hnl:=O7 hG.2.1
   refine⟨_,rfl,_,rfl,a,_,dx,_,_,rfl,sH _ _ p1,T.dU,T.eG,rfl,q2,rfl,⟨_,cB.of hz1⟩,?_⟩
   refine nR (xs:=zs) (zZ (m:=100) (by omega)) (fun i ys G'=>G=G'∧ys=((ts.take i).map (·.1)).map V.str) ⟨rfl,rfl⟩ (fun i ys G' hw=>hw.1 ▸ cB.of hz1) (fun i x ys G' hxi _ hw=>?_) (fun ys G' hw p2 hp2=>?_)
   · obtain⟨rfl,rfl⟩:=hw
     obtain⟨t,ht,b,l,rfl,hb,_⟩:=zW hz2 hxi
     refine⟨b,_,_,rfl,jJ.of hb,nu ⟨_,rfl,rfl,?_⟩⟩
     rw [yJ ht,List.map_append,List.map_append];rfl
   · obtain⟨rfl,rfl⟩:=hw
     rw [lz,List.take_length]
     have s2:=zG hp2 (.lst ((ts.map (·.1)).map V.str))
     refine⟨d,p2,_,_,rfl,rfl,s2 _ _ hd',zB,?_,fun pz hpz=>q pz _ (sH.trans (s2.trans (zG hpz _))) ?_⟩
     · rw [List.length_map,List.length_map,List.length_map,sizeLine_eq];omega
     · rw [zB,List.map_append]
end
theorem aat {kvs:List (Key × V)}{k:Key} (h:k∉kvs.map (·.1)):dW kvs k=none:=by
 cases e:dW kvs k with
 | none=>rfl
 | some v=>exact absurd (UT e) h
theorem Nh:∀ (rows acc:List (Key × V)),((acc++rows).map (·.1)).Nodup→wM acc rows=acc++rows
 | [],acc,_=>by rw [List.append_nil];rfl
 | r::rs,acc,h=>by
   have h1:r.1∉acc.map (·.1):=fun hm=>by
     rw [List.map_append,List.nodup_append] at h
     exact h.2.2 _ hm _ (List.mem_cons_self ..) rfl
   show wM (putK acc r.1 r.2) rs=_
   rw [Yg _ (aat h1),Nh rs (acc++[(r.1,r.2)]) (by rw [List.append_assoc];exact h),List.append_assoc]
   rfl
theorem O8 {rows:List (Key × V)} (h:(rows.map (·.1)).Nodup):mkD rows=rows:=by
 show wM [] rows=rows
 rw [Nh rows [] (by simpa using h)];rfl
def Xe (H:Hp) (r:Key × V) (t:rD):Prop:=r.1=.inr t.1∧∃ l,r.2=.ref l∧PsR H l t.2
theorem Xe.kp {H H':Hp} (s:Kp H H') {r:Key × V}{t:rD} (h:Xe H r t):Xe H' r t:=by
 obtain⟨e,l,e2,h1⟩:=h
 exact⟨e,l,e2,h1.kp s⟩
theorem GX {H:Hp}:∀ {xs:List V}{ts:List rD},Paired (TtR H) xs ts→∃ rows,Paired (PrR H) xs rows∧Paired (Xe H) rows ts
 | _,_,.nil=>⟨[],.nil,.nil⟩
 | _,_,.cons r rs=>by
   obtain⟨rows,h1,h2⟩:=GX rs
   obtain⟨a,l,rfl,ha,hl⟩:=r
   exact⟨(.inr _,.ref l)::rows,.cons ⟨a,rfl,ha⟩ h1,.cons ⟨rfl,l,rfl,hl⟩ h2⟩
theorem rw_keys {H:Hp}{rows:List (Key × V)}{ts:List rD} (h:Paired (Xe H) rows ts):rows.map (·.1)=(ts.map (·.1)).map Sum.inr:=by
 induction h with
 | nil=>rfl
 | cons r _ ih=>rw [List.map_cons,List.map_cons,List.map_cons,ih,r.1]
theorem rw_nd {H:Hp}{rows:List (Key × V)}{ts:List rD} (h:Paired (Xe H) rows ts) (n:(ts.map (·.1)).Nodup):(rows.map (·.1)).Nodup:=by
 rw [rw_keys h]
 exact List.Pairwise.map _ (fun a b ne e=>ne (Sum.inr.inj e)) n
theorem rw_in {H:Hp}{rows:List (Key × V)}{ts:List rD} (h:Paired (Xe H) rows ts) (z:Str):(dW rows (.inr z)).isSome=decide (z∈ts.map (·.1)):=by
 cases e:dW rows (.inr z) with
 | none =>
   have:=Ym e
   rw [rw_keys h] at this
   exact (decide_eq_false fun hz=>this (List.mem_map_of_mem hz)).symm
 | some v =>
   have:=UT e
   rw [rw_keys h] at this
   obtain⟨y,hy,ey⟩:=List.mem_map.mp this
   cases ey
   exact (decide_eq_true hy).symm
def acr (C:Addr):Sp:=fun vs H Q _=>∃ (e:Addr) (z:Str),vs=[.ref e,.str z]∧z.length≤100000∧H e=some (m8 e C none)∧∀ dx,H dx=none→dx≠e→Q .non (upd (upd H e (m8 e C (some dx))) dx (.xd [("name",.str z)]))
theorem avO {H:Hp}{e dx:Addr}{a b c:HO} (h:H e=none) (n:dx≠e):hid (upd (upd (upd H e a) e b) dx c) e=upd H dx c:=by
 funext x;unfold hid upd
 by_cases z:x=e
 · rw [if_pos z,z,if_neg (Ne.symm n),h]
 · rw [if_neg z,if_neg z,if_neg z]
theorem raised {C:Addr}{H:Hp}{z:Str}{E:XK}{e:Addr} (he:H e=none) (hz:z.length≤100000) (k:∀ dx H',az H H'→H' dx=some (.xd [("name",.str z)])→E (.ref C) (some dx) H') :
   acr C [.ref e,.str z] (upd H e (m8 e C none)) (fun v H2=>v=.non∧∃ dx,H2 e=some (m8 e C (some dx))∧E (.ref C) (some dx) (hid H2 e)) E0:=by
 refine⟨e,z,rfl,hz,zB,fun dx hdx ne=>⟨rfl,dx,(by rw [zL (Ne.symm ne)];exact zB),?_⟩⟩
 rw [avO he ne]
 rw [zL ne] at hdx
 exact k dx _ (zG hdx _) zB
theorem Ei {α:Type}{xs:List (List α)}{i:Nat}{f:α}{r:List α} (h0:(xs.take i).flatten=[]) (hx:xs[i]? = some (f::r)):∃ r',xs.flatten=f::r':=by
 have hi:=(List.getElem?_eq_some_iff.mp hx).1
 have e:xs=xs.take i++(f::r)::xs.drop (i+1):=by
   have:=List.take_append_drop i xs
   rw [List.drop_eq_getElem_cons hi,(List.getElem?_eq_some_iff.mp hx).2] at this
   exact this.symm
 rw [e,List.flatten_append,h0]
 exact⟨_,rfl⟩
theorem nil_of {α:Type}{xs:List (List α)}{i:Nat} (h0:(xs.take i).flatten=[]) (hx:xs[i]? = some []):(xs.take (i+1)).flatten=[]:=by
 rw [yJ hx,List.flatten_append,h0];rfl
theorem rn (z:Str) (ws:List Str):inV (.str z) (ws.map V.str)=decide (z∈ws):=by
 unfold inV
 rw [List.any_map,Bool.eq_iff_iff,List.any_eq_true,decide_eq_true_iff]
 constructor
 · rintro ⟨y,hy,e⟩
   have:y=z:=eq_of_beq e
   rw [← this];exact hy
 · intro h;exact⟨z,h,by show (z == z)=true;exact beq_self_eq_true z⟩
theorem lC (ws:List Str):(ws.map V.str).all iV=true:=List.all_eq_true.mpr fun x hx=>by
 obtain⟨p,_,rfl⟩:=List.mem_map.mp hx
 rfl
def acs (ws:List Str) (z:Str):Nat:=ws.findIdx fun y=>y == z
theorem aeW {ws:List Str}{z:Str} (h:z∈ws):ac9 (.str z) (ws.map V.str) (acs ws z):=by
 have hx:∃ y∈ws,(y == z)=true:=⟨z,h,beq_self_eq_true z⟩
 have hl:acs ws z<ws.length:=List.findIdx_lt_length_of_exists hx
 refine⟨.str (ws[acs ws z]'hl),?_,?_,fun m y hm hy=>?_⟩
 · rw [List.getElem?_map,List.getElem?_eq_getElem hl];rfl
 · show (ws[acs ws z]'hl == z)=true
   exact List.findIdx_getElem (w:=hl)
 · obtain⟨y',hy',rfl⟩:=zu hy
   show (y' == z)=false
   obtain⟨hm',e⟩:=List.getElem?_eq_some_iff.mp hy'
   have:=List.not_of_lt_findIdx (p:=fun y=>y == z) hm
   rw [← e]
   simpa using this
def acu (A:dq):Sp:=fun vs H Q _=>∃ a sh ts ns,vs=[.ref a]∧O5 A H a sh ts∧GP sh ts∧yo sh++ts.map (·.1)=ns∧ns.Nodup∧∀ H',az H H'→Q .non H'
def ai9 (A:dq):Sp:=fun vs H Q _=>∃ x r,vs=[x]∧ym A H x r∧∀ v,SyO A H v r.sy→Q v H
def cF (A:dq) (b:Bool):Addr:=if b then A.aB else A.aM
def XR (A:dq) (H:Hp) (E:XK) (f:Flt):Prop:=∀ dx H',az H H'→H' dx=some (.xd [("name",.str f.2)])→E (.ref (cF A f.1)) (some dx) H'
theorem XR.same {A:dq}{H H':Hp}{E:XK}{f:Flt} (s:az H H') (h:XR A H E f):XR A H' E f:=fun dx G s2 h2=>h dx G (s.trans s2) h2
abbrev YN:List (Str × Bool):=[("yes",true),("no",false)]
def yp:Str:="yes"
def Uc:Str:="no"
def Bd:Kx→Bool
 | .yn=>true
 | _=>false
def aau:Kx→Bool
 | .pk _=>true
 | _=>false
def isNm:Kx→Bool
 | .nm _=>true
 | _=>false
def aeX:Kx→Bool
 | .wh ..=>true
 | _=>false
def isOk (wd:Str):Option Kx→Bool
 | some .yn=>decide (wd=yp∨wd=Uc)
 | some (.pk ws)=>decide (wd∈ws)
 | _=>false
def Ud:Option Kx→Bool
 | some .yn=>false
 | some (.pk _)=>false
 | _=>true
def isI:At→Bool
 | .is ..=>true
 | .cm ..=>false
def aav (f:Str→Option Kx):At→Bool
 | .is z wd=>isOk wd (f z)
 | .cm z _ _=>Ud (f z)
def aaw (A:dq) (o:Bool):Sp:=fun vs H Q E=>∃ (v:V) (t:At) (d:Addr) (kvs:List (Key × V)) (f:Str→Option Kx),vs=[v,.ref d]∧JX A H v t∧isI t=o∧H d=some (.dK kvs)∧KD A H kvs f∧t.nm.length≤100∧(aav f t=true→∀ u H',az H H'→Q u H')∧(aav f t=false→XR A H E (true,t.nm))
def eaF (f:Str→Option Kx) (z:Str):List Flt:=match f z with
 | none=>[(false,z)]
 | some x=>if isNm x then [] else [(true,z)]
def aeY (A:dq):Sp:=fun vs H Q E=>∃ (z:Str) (d:Addr) (kvs:List (Key × V)) (f:Str→Option Kx),vs=[.str z,.ref d]∧H d=some (.dK kvs)∧KD A H kvs f∧z.length≤100∧(eaF f z=[]→Q .non H)∧∀ g r,eaF f z=g::r→XR A H E g
section
variable {P:Program}{w:World}{K:W.Frag}{mg:Str→Option Value}{base:Heap}{A:dq}
theorem yq (T:Txt K mg A):aN P w K mg base (jf P w) 1 A.jw A.jx ["self","name"] (acr A.aM):=by
 refine T.w6.okX wk (fun vs H Q E h=>?_) (fun cdv A0 outer s H vs Q E hr h=>?_)
 · obtain⟨e,z,rfl,_⟩:=h
   rfl
 obtain⟨e,z,rfl,hz,he,q⟩:=h
 refine⟨_,(zD (yK (QC T.DP rfl T.xx (zA (pv 0) (zA (Qv (aiK (aiP (pv 1) Zc))) zC))))
     (zF (Vb (pv 0) (pv 1) rfl rfl))),?_⟩
 refine⟨_,rfl,_,rfl,z,rfl,hz,fun y=>⟨e,A.aM,_,rfl,he,T.sO.ex,?_⟩⟩
 exact⟨_,rfl,_,rfl,e,A.aM,rfl,he,T.Fz,fun dx hdx ne=>q dx hdx ne⟩
theorem sZ (T:Txt K mg A):aN P w K mg base (jf P w) 1 A.iC A.iD ["self","name"] (acr A.aB):=by
 refine T.uI.okX uf (fun vs H Q E h=>?_) (fun cdv A0 outer s H vs Q E hr h=>?_)
 · obtain⟨e,z,rfl,_⟩:=h
   rfl
 obtain⟨e,z,rfl,hz,he,q⟩:=h
 refine⟨_,(zD (yK (QC T.DP rfl T.xx (zA (pv 0) (zA (Qv (aiP (pv 1) (aiK Zc))) zC))))
     (zF (Vb (pv 0) (pv 1) rfl rfl))),?_⟩
 refine⟨_,rfl,_,rfl,z,rfl,hz,fun y=>⟨e,A.aB,_,rfl,he,T.iQ.ex,?_⟩⟩
 exact⟨_,rfl,_,rfl,e,A.aB,rfl,he,T.Ak,fun dx hdx ne=>q dx hdx ne⟩
theorem aax (T:Txt K mg A):aN P w K mg base dR 3 A.iK A.kZ ["paper"] (acu A):=by
 have Ls:=JN (P:=P) (w:=w) (base:=base) T
 refine T.Ca.ok jU (fun vs H Q E h=>?_) (fun cdv A0 outer s H vs Q E hr h=>?_)
 · obtain⟨a,sh,ts,ns,rfl,_⟩:=h
   rfl
 obtain⟨a,sh,ts,ns,rfl,hP,hG,hns,hnd,q1⟩:=h
 refine⟨_,(zD (zS (i:=1) jU.nd rfl ‹0› zm)
     (zF (yT PassesOwn.never rfl (yO (zO Ls ‹hr› rfl T.Kv T.Ku T.Ks .nil zM (zA (pv 0) zC))) (zX (i:=2) jU.nd rfl ‹0›) (zD (yF (zV (GJ (xD hr)) (pv 2) (pv 1) (by rfl)) (zF Dt) zU)
     (zF (Gz (xD hr) (pv 1) (pv 2) Xy rfl)))))),?_⟩
 intro d hd
 have s0:=zG hd (.dK [])
 refine⟨_,rfl,a,sh,ts,rfl,hP.same s0,hG,fun l H1 s1 hl=>⟨l,rfl,⟨_,cB.of hl⟩,?_⟩⟩
 rw [hns] at hl
 have hl2:ns.length≤300:=by
   rw [← hns,List.length_append,List.length_map]
   have:=O7 hG.2.1
   have:=hG.1
   have:=hG.2.2.1
   omega
 have hd1:=s1 _ _ (zB (H:=H) (a:=d) (o:=.dK []))
 have nld:l≠d:=fun e=>by rw [e,hd1] at hl;cases hl
 refine yR (xs:=ns.map V.str) (fun i σ G=>∃ u kvs,σ=[some (.ref a),some (.ref d),u]∧Fr [d] H1 G∧G d=some (.dK kvs)∧kvs.length≤i∧(ns.take i).Nodup∧∀ z,(dW kvs (.inr z)).isSome=true↔z∈ns.take i) ⟨_,[],rfl,Fr.of (az.refl _),hd1,Nat.le_refl _,List.nodup_nil,fun z=>⟨(fun h=>by cases h),fun h=>by cases h⟩⟩ (fun i σ G hi hw=>?_) (fun i x σ G hx hw=>?_) (fun σ G hw=>?_)
 · obtain⟨u,kvs,rfl,F,_⟩:=hw
   exact cB.of (F _ _ hl (Bc nld))
 · obtain⟨u,kvs,rfl,F,hd',hk,nd,hin⟩:=hw
   obtain⟨z,hzi,rfl⟩:=zu hx
   have li:=(List.getElem?_eq_some_iff.mp hzi).1
   have sG:az H G:=fun b o hb=>F _ _ (s1 _ _ (s0 _ _ hb)) (Bc (zI hb hd))
   refine⟨_,rfl,_,rfl,d,_,rfl,jt.k (k:=.inr z) hd',_,rfl,?_⟩
   refine jY (fun c=>?_) (fun c=>?_)
   · exfalso
     obtain⟨n,ln,en⟩:=List.getElem_of_mem ((hin z).mp c)
     rw [List.length_take] at ln
     rw [List.getElem_take] at en
     have:=(List.getElem?_inj (i:=n) (j:=i) (by omega) hnd).mp (by rw [hzi,List.getElem?_eq_getElem (by omega),en])
     omega
   · have hnot:z∉ns.take i:=fun h=>c ((hin z).mpr h)
     refine⟨_,rfl,_,rfl,d,_,rfl,J5.k (k:=.inr z) hd' (zZ (m:=1000) (by have:i<ns.length:=li;omega)),?_⟩
     refine⟨_,_,rfl,F.upd (List.mem_singleton.mpr rfl) _,zB,Nat.le_trans (xK ..) (by omega),?_,fun y=>?_⟩
     · rw [yJ hzi]
       exact List.nodup_append.mpr ⟨nd,(List.pairwise_singleton ..),fun x hx y hy e=>hnot (by rw [List.mem_singleton.mp hy] at e;rw [← e];exact hx)⟩
     · rw [lO,yJ hzi,List.mem_append,List.mem_singleton]
       by_cases e:(Sum.inr y:Key)=.inr z
       · cases e;rw [if_pos rfl];exact⟨fun _=>.inr rfl,fun _=>rfl⟩
       · rw [if_neg e,hin y]
         exact⟨.inl,fun h=>h.elim id fun h=>absurd (by rw [h]) e⟩
 · obtain⟨u,kvs,rfl,F,_,_,nd,_⟩:=hw
   rw [List.length_map,List.take_length] at nd
   exact q1 G fun b o hb=>F _ _ (s1 _ _ (s0 _ _ hb)) (Bc (zI hb hd))
theorem Be (T:Txt K mg A):aN P w K mg base dR 1 A.pJ A.uC ["row"] (ai9 A):=by
 refine T.QQ.ok Oz (fun vs H Q E h=>?_) (fun cdv A0 outer s H vs Q E hr h=>?_)
 · obtain⟨x,r,rfl,_⟩:=h
   rfl
 obtain⟨x,r,rfl,⟨a,dx,sv,rfl,hsy,hrr⟩,q⟩:=h
 refine⟨_,(zF (zR (ur (yZ (zY yH (by rfl) T.aD Bt.isinstance (zA (pv 0) (zA (xN rfl T.ZR) zC)))) (zN (pv 0) rfl) (zN (pv 0) rfl)))),?_⟩
 cases ho:r.kd with
 | some b =>
   rw [ho] at hrr
   obtain⟨kd,b1,b2⟩:=hrr
   exact⟨_,rfl,_,_,_,_,rfl,rfl,.old (T.T6 H a dx _ b1),T.yd,_,rfl,cJ ⟨_,rfl,a,_,dx,_,_,rfl,b1,T.uT,T.DR,rfl,q _ hsy⟩⟩
 | none =>
   rw [ho] at hrr
   obtain⟨b,b1⟩:=hrr
   exact⟨_,rfl,_,_,_,_,rfl,rfl,.old (T.JB H a dx _ b1),T.sS,_,rfl,bD ⟨_,rfl,a,_,dx,_,_,rfl,b1,T.uU,T.wG,(by rw [Px (by symm)]),q _ hsy⟩⟩
theorem O9 {t a b:Value}{p q:Bool} (h1:W.kitOne K t a=some p) (h2:W.kitOne K t b=some q):W.kitAny K t [a,b]=some (p || q):=by
 show (match W.kitOne K t a with | some true=>some true | some false=>W.kitAny K t [b] | none=>none)=_
 rw [h1]
 cases p with
 | true=>rfl
 | false =>
   show (match W.kitOne K t b with | some true=>some true | some false=>W.kitAny K t [] | none=>none)=_
   rw [h2]
   cases q <;> rfl
theorem aja (T:Txt K mg A) (x:Kx):W.kitOne K (.ref (cKx A x)) (.ref A.aP)=some (Bd x):=by
 rcases x with _ | ⟨_ | _,_,_⟩ | _ | _
 · exact T.Jl
 · exact T.Jp
 · exact T.Js
 · exact T.Jv
 · exact T.KY
theorem adu (T:Txt K mg A) (x:Kx):W.kitOne K (.ref (cKx A x)) (.ref A.bT)=some (aau x):=by
 rcases x with _ | ⟨_ | _,_,_⟩ | _ | _
 · exact T.KJ
 · exact T.KN
 · exact T.KQ
 · exact T.K5
 · exact T.Om
theorem ajb (T:Txt K mg A) (x:Kx):W.kitOne K (.ref (cKx A x)) (.ref A.bQ)=some (aeX x):=by
 rcases x with _ | ⟨_ | _,_,_⟩ | _ | _
 · exact T.Jm
 · exact T.Jq
 · exact T.Jt
 · exact T.Jw
 · exact T.KZ
theorem adv (T:Txt K mg A) (x:Kx):W.kitOne K (.ref (cKx A x)) (.ref A.cz)=some (isNm x):=by
 rcases x with _ | ⟨_ | _,_,_⟩ | _ | _
 · exact T.Jo
 · exact T.Jr
 · exact T.Ju
 · exact T.Jx
 · exact T.K4
theorem acv (T:Txt K mg A):aN P w K mg base (jf P w) 3 A.jN A.oN ["each","kinds"] (aeY A):=by
 have fL:=yq (P:=P) (w:=w) (base:=base) T
 have bB:=sZ (P:=P) (w:=w) (base:=base) T
 refine T.IW.okX Gi (fun vs H Q E h=>?_) (fun cdv A0 outer s H vs Q E hr h=>?_)
 · obtain⟨z,d,kvs,f,rfl,_⟩:=h
   rfl
 obtain⟨z,d,kvs,f,rfl,hd,hK,hz,q1,q2⟩:=h
 refine⟨_,(zD (yF (zV (Bv (xD hr)) (pv 0) (pv 1) (by rfl)) (zF (qN T.sO fL ‹hr› T.jD T.Cv (zA (pv 0) zC) rfl)) zU)
     (zF (yF (um (yZ (zY yH (by rfl) T.aD Bt.isinstance (zA (m6 (xD hr) (pv 1) (pv 0) (fun _ _=>rfl)) (zA (xN rfl T.Vm) zC))))) (zF (qN T.iQ bB ‹hr› T.d9 T.lW (zA (pv 0) zC) rfl)) zU))),?_⟩
 have hget:=jt.k (k:=.inr z) hd
 have hf:=hK z
 cases e:f z with
 | none =>
   rw [e] at hf
   rw [show dW kvs (.inr z)=none from hf] at hget
   refine⟨_,rfl,_,rfl,.inl ⟨d,_,rfl,hget,_,rfl,cJ ?_⟩⟩
   refine⟨_,rfl,(by show 1≤sizeLine;decide),fun ex he=>raised he (by omega) fun dx H2 s2 h2=>?_⟩
   exact q2 (false,z) [] (by unfold eaF;rw [e]) dx H2 s2 h2
 | some x =>
   rw [e] at hf
   obtain⟨k,hv,hk⟩:=hf
   rw [hv] at hget
   refine⟨_,rfl,_,rfl,.inl ⟨d,_,rfl,hget,_,rfl,bD ?_⟩⟩
   refine⟨_,rfl,_,rfl,d,_,rfl,hget,_,_,_,_,rfl,rfl,.old (Vs T hk),adv T x,_,rfl,?_⟩
   cases c:isNm x with
   | true=>exact bD (q1 (by unfold eaF;rw [e];exact if_pos c))
   | false =>
     refine cJ ⟨_,rfl,(by show 1≤sizeLine;decide),fun ex he=>raised he (by omega) fun dx H2 s2 h2=>?_⟩
     exact q2 (true,z) [] (by unfold eaF;rw [e];exact if_neg (by rw [c];decide)) dx H2 s2 h2
theorem JQ (T:Txt K mg A):aN P w K mg base (jf P w) 3 A.jd A.je ["self","kinds"] (aaw A false):=by
 have jF:=Ed (P:=P) (w:=w) (base:=base) T
 have bB:=sZ (P:=P) (w:=w) (base:=base) T
 refine T.v7.okX u0 (fun vs H Q E h=>?_) (fun cdv A0 outer s H vs Q E hr h=>?_)
 · obtain⟨v,t,d,kvs,f,rfl,_⟩:=h
   rfl
 obtain⟨v,t,d,kvs,f,rfl,hs,ho,hd,hK,hz,q1,q2⟩:=h
 refine⟨_,(zD (yF (PW.pt (Bl (zV (GJ (xD hr)) (zN (pv 0) rfl) (pv 1) (by rfl)) (zc (um (yZ (zY Mt (by rfl) T.aD Bt.isinstance (zA (m6 (xD hr) (pv 1) (zN (pv 0) rfl) (fun _ _=>rfl)) (zA (yL (zA (xN rfl T.aca) (zA (xN rfl T.Vm) zC))) zC)))))))) (zF (qN T.iQ bB ‹hr› T.d9 T.lW (zA (zN (pv 0) rfl) zC) rfl)) zU)
     (zF (zR (yP T.JC jF ‹hr› rfl T.M7 T.o5 .nil zM (zA (zN (pv 0) rfl) (zA (zN (pv 0) rfl) (zA (zN (pv 0) rfl) zC))))))),?_⟩
 cases t with
 | is z wd=>cases ho
 | cm z h' n =>
 obtain⟨s',ds,rfl,hs⟩:=hs
 have hget:=jt.k (k:=.inr z) hd
 have hf:=hK z
 have hz:z.length≤100:=hz
 refine yU (fun σ' G=>az H G∧Ud (f z)=true∧σ'=[some (.ref s'),some (.ref d)]) (fun σ' G hR=>?_) (fun _ hk'=>?_)
 · obtain⟨sG,hok,rfl⟩:=hR
   refine⟨_,rfl,s',_,ds,_,_,rfl,sG _ _ hs,T.dX,T.eN,rfl,_,rfl,s',_,ds,_,_,rfl,sG _ _ hs,T.dX,T.uX,rfl,_,rfl,s',_,ds,_,_,rfl,sG _ _ hs,T.dX,T.pW,rfl,fun x dx nx nd ne=>?_⟩
   refine⟨x,dx,_,_,_,rfl,zB,rfl,?_⟩
   rw [yA]
   exact q1 hok _ _ (sG.trans (yW nx nd _))
 · cases e:f z with
   | none =>
     rw [e] at hf hk'
     rw [show dW kvs (.inr z)=none from hf] at hget
     exact⟨_,rfl,s',_,ds,_,_,rfl,hs,T.dX,T.eN,rfl,_,rfl,d,_,rfl,hget,_,rfl,bD (bD (hk' _ _ ⟨az.refl _,rfl,rfl⟩))⟩
   | some x =>
     rw [e] at hf hk'
     obtain⟨k,hv,hk⟩:=hf
     rw [hv] at hget
     refine⟨_,rfl,s',_,ds,_,_,rfl,hs,T.dX,T.eN,rfl,_,rfl,d,_,rfl,hget,_,rfl,cJ ?_⟩
     refine⟨_,rfl,_,rfl,s',_,ds,_,_,rfl,hs,T.dX,T.eN,rfl,d,_,rfl,hget,(by show 2≤sizeLine;decide),fun t1 ht1=>?_⟩
     have s1:=zG ht1 (.tup [.ref A.bQ,.ref A.cz])
     refine⟨_,t1,_,_,_,rfl,zB,rfl,.old (Vs T (hk.same s1)),O9 (ajb T x) (adv T x),_,rfl,?_⟩
     cases c:Ud (some x) with
     | true =>
       rw [show (aeX x || isNm x)=true by cases x <;> first | rfl | cases c]
       exact bD (hk' _ _ ⟨s1,c,rfl⟩)
     | false =>
       rw [show (aeX x || isNm x)=false by cases x <;> first | rfl | cases c]
       refine cJ ⟨_,rfl,s',_,ds,_,_,rfl,s1 _ _ hs,T.dX,T.eN,rfl,(by show 1≤sizeLine;decide),fun ex he=>raised he (by omega) fun dx H2 s2 h2=>?_⟩
       exact q2 (by show Ud (f z)=false;rw [e];exact c) dx H2 (s1.trans s2) h2
theorem aay (T:Txt K mg A):aN P w K mg base dR 1 A.nT A.nU ["self","thing"] (fun vs H Q _=>∃ (p v:V),vs=[p,v]∧((∃ b,v=.bl b∧Q (.bl true) H)∨(v=.non∧Q (.bl false) H))):=by
 refine T.HQ.ok FW (fun vs H Q E h=>?_) (fun cdv A0 outer s H vs Q E hr h=>?_)
 · obtain⟨p,b,rfl,_⟩:=h
   rfl
 obtain⟨p,v,rfl,⟨b,rfl,q⟩ | ⟨rfl,q⟩⟩:=h
 · exact⟨_,(zF (zR (zY yH (by rfl) T.aD Bt.isinstance (zA (pv 1) (zA (Gv (v:=.ty "bool") rfl T.ZQ Bt.bool rfl) zC))))),_,rfl,_,_,_,_,rfl,rfl,.old (.bl _),T.Ra,q⟩
 · exact⟨_,(zF (zR (zY yH (by rfl) T.aD Bt.isinstance (zA (pv 1) (zA (Gv (v:=.ty "bool") rfl T.ZQ Bt.bool rfl) zC))))),_,rfl,_,_,_,_,rfl,rfl,.old .non,T.Fy,q⟩
theorem acw (T:Txt K mg A):aN P w K mg base dR 1 A.iY A.iZ ["self","text"] (fun vs H Q _=>∃ (p:V) (z:Str),vs=[p,.str z]∧Q (Hw YN z) H):=by
 refine T.vX.ok uY (fun vs H Q E h=>?_) (fun cdv A0 outer s H vs Q E hr h=>?_)
 · obtain⟨p,b,rfl,_⟩:=h
   rfl
 obtain⟨p,z,rfl,q⟩:=h
 exact⟨_,(zF (zR (abV rfl T.Cr T.Cu (pv 1) ⟨rfl,rfl,rfl,rfl⟩))),_,rfl,z,rfl,q⟩
theorem aaz (T:Txt K mg A):aN P w K mg base dR 1 A.nW A.nY ["self","answer"] (fun vs H Q _=>∃ (p:V) (b:Bool),vs=[p,.bl b]∧∀ n,Q (.int n) H):=by
 refine T.HS.ok FZ (fun vs H Q E h=>?_) (fun cdv A0 outer s H vs Q E hr h=>?_)
 · obtain⟨p,b,rfl,_⟩:=h
   rfl
 obtain⟨p,b,rfl,q⟩:=h
 refine⟨_,(zF (zR (ur (yZ (pv 1)) zH zH))),?_⟩
 cases b
 · exact⟨_,rfl,_,rfl,bD (q _)⟩
 · exact⟨_,rfl,_,rfl,cJ (q _)⟩
theorem aaA (T:Txt K mg A):aN P w K mg base dR 1 A.qg A.qi ["self","thing"] (fun vs H Q _=>∃ (k:Addr) (ws:List Str) (z:Str),vs=[.ref k,.str z]∧M9 A H k (.pk ws)∧Q (.bl (decide (z∈ws))) H):=by
 refine T.Kg.ok JD (fun vs H Q E h=>?_) (fun cdv A0 outer s H vs Q E hr h=>?_)
 · obtain⟨p,b,z,rfl,_⟩:=h
   rfl
 obtain⟨k,ws,z,rfl,⟨dk,qa,hi,hk,hq⟩,q⟩:=h
 refine⟨_,(zF (zR (uq (zY yH (by rfl) T.aD Bt.isinstance (zA (pv 1) (zA (Gv (v:=.ty "str") rfl T.Q9 Bt.str rfl) zC))) (uo (xM nG (pv 1) (zN (pv 0) rfl) (by rfl)))))),?_⟩
 refine⟨_,rfl,_,_,_,_,rfl,rfl,.old (.str _),T.W4,_,rfl,cJ ?_⟩
 refine⟨_,rfl,_,rfl,k,_,dk,_,_,rfl,hk,T.lK,T.lM,rfl,qa,_,rfl,.inl (cB.of hq),rfl,lC _,?_⟩
 rw [rn]
 exact q
theorem acx (T:Txt K mg A):aN P w K mg base dR 1 A.jy A.jz ["self","text"] (fun vs H Q _=>∃ (p v:V),vs=[p,v]∧Q v H):=by
 refine T.xf.ok wu (fun vs H Q E h=>?_) (fun cdv A0 outer s H vs Q E hr h=>?_)
 · obtain⟨p,b,rfl,_⟩:=h
   rfl
 obtain⟨p,v,rfl,q⟩:=h
 exact⟨_,(zF (zR (pv 1))),_,rfl,q⟩
theorem aaB (T:Txt K mg A):aN P w K mg base dR 1 A.qj A.ql ["self","answer"] (fun vs H Q _=>∃ (k:Addr) (ws:List Str) (z:Str),vs=[.ref k,.str z]∧M9 A H k (.pk ws)∧z∈ws∧∀ n,Q (.int n) H):=by
 refine T.Kl.ok JF (fun vs H Q E h=>?_) (fun cdv A0 outer s H vs Q E hr h=>?_)
 · obtain⟨p,b,z,rfl,_⟩:=h
   rfl
 obtain⟨k,ws,z,rfl,⟨dk,qa,hi,hk,hq⟩,hz,q⟩:=h
 refine⟨_,(zF (zR (uw PySem.F.plainAttrs_list PySem.F.slot_list_index PySem.F.type_list_index Wg (zN (pv 0) rfl) (zA (pv 1) zC)))),?_⟩
 exact⟨_,rfl,k,_,dk,_,_,rfl,hk,T.lK,T.lM,rfl,.inl ⟨rfl,_,cB.of hq⟩,_,rfl,qa,_,_,_,rfl,rfl,cB.of hq,lC _,rfl,aeW hz,q _⟩
end
theorem aaC {wd:Str} (h:wd=yp∨wd=Uc):∃ b,Hw YN wd=.bl b:=by
 rcases h with rfl | rfl
 · exact⟨true,by symm⟩
 · exact⟨false,by symm⟩
theorem acy {wd:Str} (h:¬ (wd=yp∨wd=Uc)):Hw YN wd=.non:=by
 unfold Hw
 rw [List.lookup_cons,show (wd == ("yes":Str))=false from beq_eq_false_iff_ne.mpr fun e=>h (.inl e),List.lookup_cons,show (wd == ("no":Str))=false from beq_eq_false_iff_ne.mpr fun e=>h (.inr e)]
 rfl
section
variable {P:Program}{w:World}{K:W.Frag}{mg:Str→Option Value}{base:Heap}{A:dq}
def JFi (T:Txt K mg A):jg P w K mg base dR 1 A.aP "fits":=⟨_,_,_,_,[],[],T.qY,T.K7,aay T,T.HR,.nil⟩
def JAn (T:Txt K mg A):jg P w K mg base dR 1 A.aP "answer_of":=⟨_,_,_,_,[],[],T.qY,T.yf,acw T,T.vY,.nil⟩
def JRa (T:Txt K mg A):jg P w K mg base dR 1 A.aP "rank":=⟨_,_,_,_,[],[],T.qY,T.K8,aaz T,T.HW,.nil⟩
def JFp (T:Txt K mg A):jg P w K mg base dR 1 A.bT "fits":=⟨_,_,_,_,[],[],T.lK,T.Ot,aaA T,T.Kh,.nil⟩
def JAp (T:Txt K mg A):jg P w K mg base dR 1 A.bT "answer_of":=⟨_,_,_,_,[],[],T.lK,T.Ar,acx T,T.xg,.nil⟩
def JRp (T:Txt K mg A):jg P w K mg base dR 1 A.bT "rank":=⟨_,_,_,_,[],[],T.lK,T.Ou,aaB T,T.Km,.nil⟩
theorem Lw (T:Txt K mg A):aN P w K mg base (jf P w) 3 A.oR A.oU ["self","kinds"] (aaw A true):=by
 have jk:=yl (P:=P) (w:=w) (base:=base) T
 have bB:=sZ (P:=P) (w:=w) (base:=base) T
 refine T.Jd.okX mV (fun vs H Q E h=>?_) (fun cdv A0 outer s H vs Q E hr h=>?_)
 · obtain⟨v,t,d,kvs,f,rfl,_⟩:=h
   rfl
 obtain⟨v,t,d,kvs,f,rfl,hs,ho,hd,hK,hz,q1,q2⟩:=h
 refine⟨_,(zD (zS (i:=2) mV.nd rfl ‹0› (Yl (xD hr) (pv 1) (zN (pv 0) rfl) ⟨rfl,rfl,rfl,rfl⟩))
     (zD (yF (um (yZ (zY Mt (by rfl) T.aD Bt.isinstance (zA (pv 2) (zA (yL (zA (xN rfl T.acb) (zA (xN rfl T.ZV) zC))) zC))))) (zF (qN T.iQ bB ‹hr› T.d9 T.lW (zA (zN (pv 0) rfl) zC) rfl)) zU)
     (zD (zS (i:=3) mV.nd rfl ‹0› (yY (CX:=dR) (k:=1) ‹hr› zM (pv 2) (zA (zN (pv 0) rfl) zC)))
     (zD (yF (um (yZ (yY (CX:=dR) (k:=1) ‹hr› zM (pv 2) (zA (pv 3) zC)))) (zF (qN T.iQ bB ‹hr› T.d9 T.lW (zA (zN (pv 0) rfl) zC) rfl)) zU)
     (zF (zR (yP T.Z8 jk ‹hr› rfl T.aeD T.Ky .nil zM (zA (zN (pv 0) rfl) (zA (zN (pv 0) rfl) (zA (yY (CX:=dR) (k:=1) ‹hr› zM (pv 2) (zA (pv 3) zC)) zC)))))))))),?_⟩
 cases t with
 | cm z h' n=>cases ho
 | is z wd =>
 obtain⟨s',ds,rfl,hs⟩:=hs
 have hget:=jt.k (k:=.inr z) hd
 have hf:=hK z
 have hz:z.length≤100:=hz
 have q1:isOk wd (f z)=true→∀ u H',az H H'→Q u H':=q1
 have q2:isOk wd (f z)=false→XR A H E (true,z):=q2
 cases e:f z with
 | none =>
   rw [e] at hf q2
   rw [show dW kvs (.inr z)=none from hf] at hget
   refine⟨_,rfl,d,rfl,.inl ⟨kvs,.inl hd⟩,_,rfl,s',_,ds,_,_,rfl,hs,T.jj,T.fK,rfl,_,hget,?_⟩
   refine⟨_,rfl,(by show 2≤sizeLine;decide),fun t1 ht1=>?_⟩
   have s1:=zG ht1 (.tup [.ref A.aP,.ref A.bT])
   refine⟨_,t1,_,_,_,rfl,zB,rfl,.old .non,O9 T.ye T.An,_,rfl,cJ ?_⟩
   refine⟨_,rfl,s',_,ds,_,_,rfl,s1 _ _ hs,T.jj,T.fK,rfl,(by show 1≤sizeLine;decide),fun ex he=>raised he (by omega) fun dx H2 s2 h2=>?_⟩
   exact q2 rfl dx H2 (s1.trans s2) h2
 | some x =>
   rw [e] at hf q1 q2
   obtain⟨k,hv,hk⟩:=hf
   rw [hv] at hget
   refine⟨_,rfl,d,rfl,.inl ⟨kvs,.inl hd⟩,_,rfl,s',_,ds,_,_,rfl,hs,T.jj,T.fK,rfl,_,hget,?_⟩
   refine⟨_,rfl,(by show 2≤sizeLine;decide),fun t1 ht1=>?_⟩
   have s1:=zG ht1 (.tup [.ref A.aP,.ref A.bT])
   refine⟨_,t1,_,_,_,rfl,zB,rfl,.old (Vs T (hk.same s1)),O9 (aja T x) (adu T x),_,rfl,?_⟩
   have hs1:=s1 _ _ hs
   have hk1:=hk.same s1
   generalize upd H t1 (.tup [.ref A.aP,.ref A.bT])=H1 at s1 hk1 hs1
   have wrong:isOk wd (some x)=false→∀ ex,H1 ex=none→acr A.aB [.ref ex,.str z] (upd H1 ex (m8 ex A.aB none)) (fun v H2=>v=.non∧∃ dx,H2 ex=some (m8 ex A.aB (some dx))∧E (.ref A.aB) (some dx) (hid H2 ex)) E0:=fun c ex he=>raised he (by omega) fun dx H2 s2 h2=>q2 c dx H2 (s1.trans s2) h2
   cases x with
   | wh m lo hi =>
     refine cJ ⟨_,rfl,s',_,ds,_,_,rfl,hs1,T.jj,T.fK,rfl,(by show 1≤sizeLine;decide),fun ex he=>wrong rfl ex he⟩
   | nm n =>
     refine cJ ⟨_,rfl,s',_,ds,_,_,rfl,hs1,T.jj,T.fK,rfl,(by show 1≤sizeLine;decide),fun ex he=>wrong rfl ex he⟩
   | yn =>
     obtain⟨dk,hk1⟩:=hk1
     refine bD ?_
     refine⟨_,rfl,k,_,dk,_,JAn T,rfl,hk1,rfl,_,rfl,s',_,ds,_,_,rfl,hs1,T.jj,T.jE,rfl,_,wd,rfl,?_⟩
     by_cases c:wd=yp∨wd=Uc
     · obtain⟨b,eb⟩:=aaC c
       rw [eb]
       refine⟨_,rfl,k,_,dk,_,JFi T,rfl,hk1,rfl,_,rfl,_,_,rfl,.inl ⟨b,rfl,_,rfl,bD ?_⟩⟩
       refine⟨_,rfl,s',_,ds,_,_,rfl,hs1,T.jj,T.fK,rfl,_,rfl,s',_,ds,_,_,rfl,hs1,T.jj,T.jE,rfl,_,rfl,k,_,dk,_,JRa T,rfl,hk1,rfl,_,rfl,_,b,rfl,fun n x dx nx nd ne=>?_⟩
       refine⟨x,dx,_,_,_,rfl,zB,rfl,?_⟩
       rw [yA]
       exact q1 (decide_eq_true c) _ _ (s1.trans (yW nx nd _))
     · rw [acy c]
       refine⟨_,rfl,k,_,dk,_,JFi T,rfl,hk1,rfl,_,rfl,_,_,rfl,.inr ⟨rfl,_,rfl,cJ ?_⟩⟩
       exact⟨_,rfl,s',_,ds,_,_,rfl,hs1,T.jj,T.fK,rfl,(by show 1≤sizeLine;decide),fun ex he=>wrong (decide_eq_false c) ex he⟩
   | pk ws =>
     have hkw:=hk1
     obtain⟨dk,qa,hi,hk1,hqa⟩:=hk1
     refine bD ?_
     refine⟨_,rfl,k,_,dk,_,JAp T,rfl,hk1,rfl,_,rfl,s',_,ds,_,_,rfl,hs1,T.jj,T.jE,rfl,_,_,rfl,?_⟩
     refine⟨_,rfl,k,_,dk,_,JFp T,rfl,hk1,rfl,_,rfl,k,ws,wd,rfl,hkw,_,rfl,?_⟩
     by_cases c:wd∈ws
     · rw [decide_eq_true c]
       refine bD ?_
       refine⟨_,rfl,s',_,ds,_,_,rfl,hs1,T.jj,T.fK,rfl,_,rfl,s',_,ds,_,_,rfl,hs1,T.jj,T.jE,rfl,_,rfl,k,_,dk,_,JRp T,rfl,hk1,rfl,_,rfl,k,ws,wd,rfl,hkw,c,fun n x dx nx nd ne=>?_⟩
       refine⟨x,dx,_,_,_,rfl,zB,rfl,?_⟩
       rw [yA]
       exact q1 (decide_eq_true c) _ _ (s1.trans (yW nx nd _))
     · rw [decide_eq_false c]
       exact cJ ⟨_,rfl,s',_,ds,_,_,rfl,hs1,T.jj,T.fK,rfl,(by show 1≤sizeLine;decide),fun ex he=>wrong (decide_eq_false c) ex he⟩
theorem ajc (T:Txt K mg A) {t:At}{x:V}{H:Hp} (hs:JX A H x t) :
   ∃ (a C dx:Addr) (fs:List (Str × V)) (M:jg P w K mg base (jf P w) 5 C "settled"),x=.ref a∧H a=some (.ins C dx fs)∧fs.lookup ‹"settled"› = none∧M.vR=[]∧∀ d Q E,aaw A (isI t) [x,.ref d] H Q E→M.sp [x,.ref d] H Q E:=by
 cases t with
 | is z wd =>
   obtain⟨a,dx,rfl,h1⟩:=id hs
   exact⟨a,_,dx,_,⟨_,_,_,_,[],[],T.jj,T.Lg,(Lw T).mono (by decide),T.Je,.nil⟩,rfl,h1,rfl,rfl,fun _ _ _ h=>h⟩
 | cm z h' n =>
   obtain⟨a,dx,rfl,h1⟩:=id hs
   exact⟨a,_,dx,_,⟨_,_,_,_,[],[],T.dX,T.yh,(JQ T).mono (by decide),T.v9,.nil⟩,rfl,h1,rfl,rfl,fun _ _ _ h=>h⟩
end
def Py (f:Str→Option Kx) (tn:List Str) (a:At):List Flt:=if f a.nm=none∧a.nm∉tn then [(false,a.nm)] else if aav f a then [] else [(true,a.nm)]
def Gm (f:Str→Option Kx) (tn:List Str) (o:Option Sy):List Flt:=((atO o).map (Py f tn)).flatten
def Pz (f:Str→Option Kx) (tn:List Str) (p:Part):List Flt:=match p.2 with
 | none=>[]
 | some z=>match f z with
   | some x=>if aau x then [(true,z)] else []
   | none=>if z∈tn then [] else [(false,z)]
def Lx (f:Str→Option Kx) (tn:List Str) (ps:List Part):List Flt:=(ps.map (Pz f tn)).flatten
def GN (o:Option Sy):Prop:=GO o∧∀ a∈atO o,a.nm.length≤100
def ajd (A:dq):Sp:=fun vs H Q E=>∃ (v:V) (o:Option Sy) (d:Addr) (kvs:List (Key × V)) (dt:Addr) (kt:List (Key × V)) (f:Str→Option Kx) (tn:List Str),vs=[v,.ref d,.ref dt]∧SyO A H v o∧GN o∧H d=some (.dK kvs)∧KD A H kvs f∧H dt=some (.dK kt)∧(∀ z,(dW kt (.inr z)).isSome=decide (z∈tn))∧(Gm f tn o=[]→∀ H',az H H'→Q .non H')∧∀ g r,Gm f tn o=g::r→XR A H E g
def aje (A:dq):Sp:=fun vs H Q E=>∃ (l d:Addr) (kvs:List (Key × V)) (dt:Addr) (kt:List (Key × V)) (f:Str→Option Kx) (tn:List Str) (ps:List Part),vs=[.ref l,.ref d,.ref dt]∧PsR H l ps∧H d=some (.dK kvs)∧KD A H kvs f∧H dt=some (.dK kt)∧(∀ z,(dW kt (.inr z)).isSome=decide (z∈tn))∧(∀ p∈ps,∀ z,p.2=some z→z.length≤100)∧(Lx f tn ps=[]→Q .non H)∧∀ g r,Lx f tn ps=g::r→XR A H E g
theorem KD.isSome {A:dq}{H:Hp}{kvs:List (Key × V)}{f:Str→Option Kx} (h:KD A H kvs f) (z:Str):(dW kvs (.inr z)).isSome=(f z).isSome:=by
 have:=h z
 cases e:f z with
 | none=>rw [e] at this;rw [show dW kvs (.inr z)=none from this];rfl
 | some x=>rw [e] at this;obtain⟨k,h1,_⟩:=this;rw [h1];rfl
section
variable {P:Program}{w:World}{K:W.Frag}{mg:Str→Option Value}{base:Heap}{A:dq}
theorem CQ (T:Txt K mg A):aN P w K mg base (jf P w) 8 A.jl A.mL ["saying","kinds","totals"] (ajd A):=by
 have yr:=Eh (P:=P) (w:=w) (base:=base) T
 have fL:=yq (P:=P) (w:=w) (base:=base) T
 refine T.Fd.okX rm (fun vs H Q E h=>?_) (fun cdv A0 outer s H vs Q E hr h=>?_)
 · obtain⟨v,o,d,kvs,dt,kt,f,tn,rfl,_⟩:=h
   rfl
 obtain⟨v,o,d,kvs,dt,kt,f,tn,rfl,hS,hGN,hd,hK,hdt,hkt,q1,q2⟩:=h
 refine⟨_,(zF (PS.inL (vJ (yO (zO yr ‹hr› rfl T.IV T.IK T.Iz .nil zM (zA (pv 0) zC))) (zX (i:=3) rm.nd rfl ‹0›) (zD (yF (PW.pt (Bl (zV (rO (xD hr)) (zN (pv 3) rfl) (pv 1) (by rfl)) (zc (zV (rO (xD hr)) (zN (pv 3) rfl) (pv 2) (by rfl))))) (zF (Bw T.sO fL ‹hr› T.jD T.Cv (zA (zN (pv 3) rfl) zC) rfl)) zU)
     (zF (yK (yY (CX:=jf P w) (k:=5) ‹hr› QG (pv 3) (zA (pv 1) zC)))))))),?_⟩
 refine⟨_,rfl,v,o,rfl,hS,hGN.1,fun l xs H1 s1 hl hxs=>⟨l,rfl,⟨_,cB.of hl⟩,?_⟩⟩
 refine yR (xs:=xs) (fun i σ H'=>az H1 H'∧(((atO o).map (Py f tn)).take i).flatten=[]∧∃ u,σ=[some v,some (.ref d),some (.ref dt),u]) ⟨az.refl _,rfl,_,rfl⟩ (fun i σ H' _ hw=>cB.of (hw.1 _ _ hl)) (fun i x σ H' hx hw=>?_) (fun σ H' hw=>?_)
 · obtain⟨s2,hn,u,rfl⟩:=hw
   obtain⟨t,ht,hat⟩:=zW hxs hx
   have s3:=s1.trans s2
   have hmi:((atO o).map (Py f tn))[i]? = some (Py f tn t):=by rw [List.getElem?_map,ht];rfl
   have ha2:=hat.same s2
   obtain⟨a,C,ds,fs,rfl,h1,cl,na,hfl⟩:=ha2.fld T
   have hlen:=hGN.2 t (List.mem_of_getElem? ht)
   have hget:=jt.k (k:=.inr t.nm) (s3 _ _ hd)
   have hgt:=jt.k (k:=.inr t.nm) (s3 _ _ hdt)
   have hks:=hK.isSome t.nm
   refine yU (fun σ' G=>H'=G∧¬ (f t.nm=none∧t.nm∉tn)∧σ'=[some v,some (.ref d),some (.ref dt),some (.ref a)]) (fun σ' G hR=>?_) (fun _ hk'=>?_)
   · obtain⟨rfl,hkn,rfl⟩:=hR
     obtain⟨a',C',dx',fs',M,ea,h1',hl',hdv,hsp⟩:=ajc (P:=P) (w:=w) (base:=base) T ha2
     cases ea
     refine⟨_,rfl,a,C',dx',fs',M,rfl,h1',hl',_,rfl,?_⟩
     dsimp only [J0]
     rw [hdv]
     refine hsp d _ _ ⟨_,t,d,kvs,f,rfl,ha2,rfl,s3 _ _ hd,hK.same s3,hlen,fun c v H4 s4=>?_,fun c=>?_⟩
     · have e0:Py f tn t=[]:=by unfold Py;rw [if_neg hkn,if_pos c]
       rw [e0] at hmi
       exact⟨s2.trans s4,nil_of hn hmi,_,rfl⟩
     · have e0:Py f tn t=[(true,t.nm)]:=by unfold Py;rw [if_neg hkn,if_neg (by rw [c];decide)]
       rw [e0] at hmi
       obtain⟨r,hr'⟩:=Ei hn hmi
       exact (q2 _ r hr').same s3
   · refine⟨_,rfl,a,C,ds,fs,_,rfl,h1,cl,na,hfl,_,rfl,d,_,rfl,hget,_,rfl,?_⟩
     rw [hks]
     cases e:f t.nm with
     | some x=>exact bD (bD (hk' _ _ ⟨rfl,(fun h=>by rw [e] at h;cases h.1),rfl⟩))
     | none =>
       refine cJ ⟨_,rfl,a,C,ds,fs,_,rfl,h1,cl,na,hfl,_,rfl,dt,_,rfl,hgt,_,rfl,?_⟩
       rw [hkt t.nm]
       by_cases c:t.nm∈tn
       · rw [decide_eq_true c]
         exact bD (hk' _ _ ⟨rfl,fun h=>h.2 c,rfl⟩)
       · rw [decide_eq_false c]
         refine cJ ⟨_,rfl,a,C,ds,fs,_,rfl,h1,cl,na,hfl,(by show 1≤sizeLine;decide),fun ex he=>raised he (by omega) fun dx H2 s4 h2=>?_⟩
         have e0:Py f tn t=[(false,t.nm)]:=by unfold Py;rw [if_pos ⟨e,c⟩]
         rw [e0] at hmi
         obtain⟨r,hr'⟩:=Ei hn hmi
         exact q2 _ r hr' dx H2 (s3.trans s4) h2
 · obtain⟨s2,hn,_⟩:=hw
   rw [zK hxs,← List.length_map (as:=atO o) (f:=Py f tn),List.take_length] at hn
   exact q1 hn _ (s1.trans s2)
theorem CT (T:Txt K mg A):aN P w K mg base (jf P w) 3 A.jm A.mO ["parts","kinds","totals"] (aje A):=by
 have fL:=yq (P:=P) (w:=w) (base:=base) T
 have bB:=sZ (P:=P) (w:=w) (base:=base) T
 refine T.Fe.okX lA (fun vs H Q E h=>?_) (fun cdv A0 outer s H vs Q E hr h=>?_)
 · obtain⟨l,d,kvs,dt,kt,f,tn,ps,rfl,_⟩:=h
   rfl
 obtain⟨l,dk,kk,dt,kt,f,tn,ps,rfl,⟨xs,hl,hp⟩,hk,hK,ht,hkt,hlen,q1,q2⟩:=h
 refine⟨_,(zF (PS.inL (vJ (yO (pv 0)) (j5 rfl (yB (zX (i:=3) lA.nd rfl ‹0›) (yB (zX (i:=4) lA.nd rfl ‹0›) xL))) (zD (yF (PW.pt (Bl (zV zf (pv 4) mq (yD _)) (Bl (zV (Bv (xD hr)) (pv 4) (pv 1) (by rfl)) (zc (zV (Bv (xD hr)) (pv 4) (pv 2) (by rfl)))))) (zF (Bw T.sO fL ‹hr› T.jD T.Cv (zA (pv 4) zC) rfl)) zU)
     (zF (yF (PW.pt (Bl (zV (Tf (xD hr)) (pv 4) (pv 1) (by rfl)) (zc (yZ (zY yH (by rfl) T.aD Bt.isinstance (zA (m6 (xD hr) (pv 1) (pv 4) (fun _ _=>rfl)) (zA (xN rfl T.ZV) zC))))))) (zF (Bw T.iQ bB ‹hr› T.d9 T.lW (zA (pv 4) zC) rfl)) zU)))))),?_⟩
 refine⟨_,rfl,l,rfl,⟨_,cB.of hl⟩,?_⟩
 refine yR (xs:=xs) (fun i σ H'=>∃ u v,σ=[some (.ref l),some (.ref dk),some (.ref dt),u,v]∧H=H'∧((ps.map (Pz f tn)).take i).flatten=[]) ⟨_,_,rfl,rfl,rfl⟩ (fun i σ H' _ hw=>hw.elim fun _ z=>z.elim fun _ z=>z.2.1 ▸ cB.of hl) (fun i x σ H' hx hw=>?_) (fun σ H' hw=>?_)
 · obtain⟨u,v,rfl,rfl,hn⟩:=hw
   obtain⟨p,hpi,t,rfl,htt⟩:=zW hp hx
   have hmi:(ps.map (Pz f tn))[i]? = some (Pz f tn p):=by rw [List.getElem?_map,hpi];rfl
   refine⟨t,_,rfl,jJ.of htt,rfl,_,_,rfl,_,_,rfl,rfl,?_⟩
   dsimp only [bC,List.set_cons_succ,List.set_cons_zero]
   refine yU (fun σ' G=>H=G∧(∀ z,p.2=some z→f z=none→z∈tn)∧σ'=[some (.ref l),some (.ref dk),some (.ref dt),some (.int p.1),some (nv p.2)]) (fun σ' G hR=>?_) (fun _ hk'=>?_)
   · obtain⟨rfl,hf,rfl⟩:=hR
     cases hq:p.2 with
     | none =>
       have e0:Pz f tn p=[]:=by unfold Pz;rw [hq]
       rw [e0] at hmi
       refine⟨_,rfl,_,rfl,.inr ⟨dk,_,rfl,rfl,.inl hk,_,rfl,bD (bD ?_)⟩⟩
       exact⟨_,_,rfl,rfl,nil_of hn hmi⟩
     | some z =>
       have hget:=jt.k (k:=.inr z) hk
       have hz:=hK z
       cases e:f z with
       | none =>
         have e0:Pz f tn p=[]:=by unfold Pz;rw [hq];dsimp only;rw [e];exact if_pos (hf z hq e)
         rw [e0] at hmi
         rw [e] at hz
         rw [show dW kk (.inr z)=none from hz] at hget
         exact⟨_,rfl,_,rfl,.inl ⟨dk,_,rfl,hget,_,rfl,bD (bD ⟨_,_,rfl,rfl,nil_of hn hmi⟩)⟩⟩
       | some xk =>
         rw [e] at hz
         obtain⟨kd,hv,hkd⟩:=hz
         rw [hv] at hget
         refine⟨_,rfl,_,rfl,.inl ⟨dk,_,rfl,hget,_,rfl,cJ ⟨_,rfl,_,rfl,dk,_,rfl,hget,?_⟩⟩⟩
         refine⟨_,_,_,_,rfl,rfl,.old (Vs T hkd),adu T xk,_,rfl,?_⟩
         cases c:aau xk with
         | false =>
           have e0:Pz f tn p=[]:=by unfold Pz;rw [hq];dsimp only;rw [e];exact if_neg (by rw [c];decide)
           rw [e0] at hmi
           exact bD ⟨_,_,rfl,rfl,nil_of hn hmi⟩
         | true =>
           have e0:Pz f tn p=[(true,z)]:=by unfold Pz;rw [hq];dsimp only;rw [e];exact if_pos c
           rw [e0] at hmi
           obtain⟨r,hr'⟩:=Ei hn hmi
           exact cJ ⟨_,rfl,(by show 1≤sizeLine;decide),fun ex he=>raised he (by have:=hlen p (List.mem_of_getElem? hpi) z hq;omega) fun dx H2 s4 h2=>q2 _ r hr' dx H2 s4 h2⟩
   · cases hq:p.2 with
     | none =>
       refine⟨_,rfl,rfl,_,rfl,bD (bD ?_)⟩
       exact hk' _ _ ⟨rfl,(fun z hz=>by rw [hq] at hz;cases hz),by rw [hq]⟩
     | some z =>
       have hget:=jt.k (k:=.inr z) hk
       refine⟨_,rfl,rfl,_,rfl,cJ ⟨_,rfl,_,rfl,.inl ⟨dk,_,rfl,hget,_,rfl,?_⟩⟩⟩
       rw [hK.isSome z]
       cases e:f z with
       | some xk=>exact bD (bD (hk' _ _ ⟨rfl,(fun y hy he=>by rw [hq] at hy;cases hy;rw [e] at he;cases he),by rw [hq]⟩))
       | none =>
         refine cJ ⟨_,rfl,_,rfl,.inl ⟨dt,_,rfl,jt.k (k:=.inr z) ht,_,rfl,?_⟩⟩
         rw [hkt z]
         by_cases c2:z∈tn
         · rw [decide_eq_true c2]
           exact bD (hk' _ _ ⟨rfl,(fun y hy he=>by rw [hq] at hy;cases hy;exact c2),by rw [hq]⟩)
         · rw [decide_eq_false c2]
           refine cJ ⟨_,rfl,(by show 1≤sizeLine;decide),fun ex he=>raised he (by have:=hlen p (List.mem_of_getElem? hpi) z hq;omega) fun dx H2 s4 h2=>?_⟩
           have hf:Pz f tn p=[(false,z)]:=by unfold Pz;rw [hq];dsimp only;rw [e];exact if_neg c2
           rw [hf] at hmi
           obtain⟨r,hr'⟩:=Ei hn hmi
           exact q2 _ r hr' dx H2 s4 h2
 · obtain⟨u,v,rfl,rfl,hn⟩:=hw
   rw [zK hp,← List.length_map (as:=ps) (f:=Pz f tn),List.take_length] at hn
   exact q1 hn
end
abbrev zE:Str:=‹"end"›
def tgt (sh:List Sh) (s:Nat):List Str:=zE::(sh.drop (s+1)).map (·.nm)
def Rt (f:Str→Option Kx) (t:Sh):List Flt:=match t.ea with
 | none=>[]
 | some z=>eaF f z
def aeZ (f:Str→Option Kx) (tn:List Str) (t:Sh):List Flt:=(t.rows.map fun r=>Gm f tn r.sy).flatten
def ae0 (f:Str→Option Kx) (tn:List Str) (t:Sh):List Flt:=(t.ways.map fun y=>Gm f tn y.2).flatten
def Gn (f:Str→Option Kx) (tn:List Str) (t:Sh):List Flt:=Rt f t++(aeZ f tn t++ae0 f tn t)
def Ru (f:Str→Option Kx) (tn:List Str) (sh:List Sh):List Flt:=(sh.map (Gn f tn)).flatten
def aaD (f:Str→Option Kx) (tn:List Str) (sh:List Sh) (ts:List rD):List Flt:=Ru f tn sh++(ts.map fun t=>Lx f tn t.2).flatten
theorem Ue {α:Type}{l m:List α}{f:α} (h:∃ r,l=f::r):∃ r,l++m=f::r:=by obtain⟨r,rfl⟩:=h;exact⟨_,rfl⟩
theorem Ug {f:Str→Option Kx}{tn:List Str}{sh:List Sh}{i:Nat}{t:Sh}{g:Flt} (h0:((sh.map (Gn f tn)).take i).flatten=[]) (ht:sh[i]? = some t) (h:∃ r,Gn f tn t=g::r) (ts:List rD):∃ r,aaD f tn sh ts=g::r:=by
 obtain⟨r,hr⟩:=h
 exact Ue (Ei (r:=r) h0 (by rw [List.getElem?_map,ht,← hr];rfl))
def GA (sh:List Sh) (ts:List rD):Prop:=(∀ t∈sh,(∀ z,t.ea=some z→z.length≤100)∧(∀ r∈t.rows,GN r.sy)∧∀ y∈t.ways,y.1=zE∧GN y.2)∧(ts.map (·.1)).Nodup∧∀ t∈ts,∀ p∈t.2,∀ z,p.2=some z→z.length≤100
def avQ (A:dq):Sp:=fun vs H Q E=>∃ a sh ts f tn,vs=[.ref a]∧O5 A H a sh ts∧GP sh ts∧GA sh ts∧f=Vu (allR sh)∧tn=ts.map (·.1)∧(aaD f tn sh ts=[]→∀ H',az H H'→Q .non H')∧∀ g r,aaD f tn sh ts=g::r→XR A H E g
theorem CV {l:List V}{j:Nat} (h:j≤l.length):Qd l (some (j:Int)) none=l.drop j:=by
 unfold Qd
 have e1:HT.wz l.length 0 (some (j:Int))=j:=by
   show (if (j:Int)<0 then ((j:Int)+l.length).toNat else min (j:Int).toNat l.length)=_
   rw [if_neg (by omega)];omega
 have e2:HT.wz l.length l.length none=l.length:=rfl
 rw [e1,e2]
 exact List.take_of_length_le (by rw [List.length_drop];exact Nat.le_refl _)
theorem vg {α β:Type}{R:α→β→Prop}:∀ {as:List α}{bs:List β} (i:Nat),Paired R as bs→Paired R (as.drop i) (bs.drop i)
 | _,_,0,h=>h
 | _,_,_+1,.nil=>.nil
 | _,_,i+1,.cons _ t=>vg i t
section
variable {P:Program}{w:World}{K:W.Frag}{mg:Str→Option Value}{base:Heap}{A:dq}
theorem CW (T:Txt K mg A):aN P w K mg base (jf P w) 9 A.jn A.mQ ["paper"] (avQ A):=by
 have Uh:=Rr (P:=P) (w:=w) (base:=base) T
 have vh:=Be (P:=P) (w:=w) (base:=base) T
 have tV:=CQ (P:=P) (w:=w) (base:=base) T
 have Gp:=CT (P:=P) (w:=w) (base:=base) T
 have JR:=acv (P:=P) (w:=w) (base:=base) T
 refine T.Fj.okX bj (fun vs H Q E h=>?_) (fun cdv A0 outer s H vs Q E hr h=>?_)
 · obtain⟨a,sh,ts,f,tn,rfl,_⟩:=h
   rfl
 obtain⟨a,sh,ts,f,tn,rfl,hP,hG,hA,hf0,htn,q1,q2⟩:=h
 refine⟨_,(zD (zS (i:=1) bj.nd rfl ‹0› (zO Uh ‹hr› rfl T.Tr T.Tq T.Tp .nil zM (zA (pv 0) zC)))
     (zD (zS (i:=2) bj.nd rfl ‹0› (yG (xQ rfl) (by rfl) T.Ol Bt.dict (zA (zN (pv 0) rfl) zC)))
     (zD (PS.inL (vJ (rN rfl T.iG (zA (zN (pv 0) rfl) zC)) (j5 rfl (yB (zX (i:=3) bj.nd rfl ‹0›) (yB (zX (i:=4) bj.nd rfl ‹0›) xL))) (zD (yF (zV zf (zN (pv 4) rfl) mq (yD _)) (zF (yK (zO JR ‹hr› rfl T.Jc T.Jb T.Ja .nil QG (zA (zN (pv 4) rfl) (zA (pv 1) zC))))) zU)
     (zD (vJ (yO (zN (pv 4) rfl)) (zX (i:=5) bj.nd rfl ‹0›) (zF (yK (zO tV ‹hr› rfl T.tQ T.tO T.tM .nil QG (zA (zO vh ‹hr› rfl T.Dy T.Dw T.Dv .nil zM (zA (pv 5) zC)) (zA (pv 1) (zA (pv 2) zC)))))))
     (zD (zS (i:=6) bj.nd rfl ‹0› (zP rH (yM (zA zQ zC)) (z9 (xA (x:="later") (M:=["paper","kinds","totals","place","sheet","row","targets","target","saying","name","parts"]) rfl (by rfl)) rfl (yO (qI Gx (zN (pv 0) rfl) (vG (zP xO (pv 3) zH)) vD)) (fun _ _ _ _=>lU) (fun _ _ _ _=>N5 (by exact (zN (pv 0) rfl)) (by dsimp only [iW] <;> rfl)))))
     (zF (vJ (yO (zN (pv 4) rfl)) (j5 rfl (yB (zX (i:=7) bj.nd rfl ‹0›) (yB (zX (i:=8) bj.nd rfl ‹0›) xL))) (zD (yF (zV Ny (pv 7) (pv 6) (by rfl)) (zF Dt) zU)
     (zF (yK (zO tV ‹hr› rfl T.tQ T.tO T.tM .nil QG (zA (pv 8) (zA (pv 1) (zA (pv 2) zC))))))))))))))
     (zF (PS.inL (vJ (yO (zN (pv 0) rfl)) (j5 rfl (yB (zX (i:=9) bj.nd rfl ‹0›) (yB (zX (i:=10) bj.nd rfl ‹0›) xL))) (zF (yK (zO Gp ‹hr› rfl T.Fi T.Fg T.Ff .nil QG (zA (pv 10) (zA (pv 1) (zA (pv 2) zC)))))))))))),?_⟩
 refine⟨_,rfl,a,sh,ts,rfl,hP,hG,fun d kvs H1 s1 hd1 hK=>?_⟩
 have hKD:KD A H kvs f:=by rw [hf0];exact hK.2
 obtain⟨dx,u,qa,qb,xs,p1,p2,p3,p8⟩:=hP
 have lxs:=zK p3
 obtain⟨tx,hx,hxt⟩:=p8.kp (.of s1)
 obtain⟨rows,hpr,Bu⟩:=GX hxt
 refine⟨_,rfl,a,_,dx,_,_,rfl,s1 _ _ p1,T.dU,T.eG,rfl,qb,tx,rows,rfl,hx,hpr,fun dt hdt=>?_⟩
 rw [O8 (rw_nd Bu hA.2.1)]
 have s2:=s1.trans (zG hdt (.dK rows))
 have Ui:(upd H1 dt (.dK rows)) dt=some (.dK rows):=zB
 have hd2:=zG hdt (.dK rows) _ _ hd1
 have hx2:=zG hdt (.dK rows) _ _ hx
 have ae3:=zJ hxt fun _ _ r=>TtR.kp (.of (zG hdt (.dK rows))) r
 generalize upd H1 dt (.dK rows)=H2 at s2 Ui hd2 hx2 ae3
 have hkt:∀ z,(dW rows (.inr z)).isSome=decide (z∈tn):=by rw [htn];exact rw_in Bu
 dsimp only [bC,List.set_cons_succ,List.set_cons_zero]
 refine yU (fun σ' G=>az H2 G∧Ru f tn sh=[]∧∃ u1 u2 u3 u4 u5 u6 u7 u8,σ'=[some (.ref a),some (.ref d),some (.ref dt),u1,u2,u3,u4,u5,u6,u7,u8]) (fun σ' G hR=>?_) (fun _ hk=>?_)
 · obtain⟨s3,hok,u1,u2,u3,u4,u5,u6,u7,u8,rfl⟩:=hR
   refine⟨_,rfl,a,_,dx,_,_,rfl,(s2.trans s3) _ _ p1,T.dU,T.eG,rfl,qb,rfl,⟨_,cB.of (s3 _ _ hx2)⟩,?_⟩
   refine yR (xs:=tx) (fun i σ H'=>G=H'∧((ts.map fun t=>Lx f tn t.2).take i).flatten=[]∧∃ u1 u2 u3 u4 u5 u6 u7 u8,σ=[some (.ref a),some (.ref d),some (.ref dt),u1,u2,u3,u4,u5,u6,u7,u8]) ⟨rfl,rfl,_,_,_,_,_,_,_,_,rfl⟩ (fun i σ H' _ hw=>hw.1 ▸ cB.of (s3 _ _ hx2)) (fun i x σ H' hxi hw=>?_) (fun σ H' hw=>?_)
   · obtain⟨rfl,hn,u1,u2,u3,u4,u5,u6,u7,u8,rfl⟩:=hw
     obtain⟨t,ht,b,l,rfl,hb,hl⟩:=zW ae3 hxi
     have hmi:(ts.map fun t=>Lx f tn t.2)[i]? = some (Lx f tn t.2):=by rw [List.getElem?_map,ht];rfl
     refine⟨b,_,rfl,jJ.of (s3 _ _ hb),rfl,_,_,rfl,_,_,rfl,rfl,?_⟩
     refine⟨_,rfl,_,rfl,_,rfl,l,d,kvs,dt,rows,f,tn,t.2,rfl,hl.kp (.of s3),s3 _ _ hd2,hKD.same (s2.trans s3),s3 _ _ Ui,hkt,hA.2.2 t (List.mem_of_getElem? ht),fun h0=>⟨rfl,nil_of hn (by rw [hmi,h0]),_,_,_,_,_,_,_,_,rfl⟩,fun g r hf=>?_⟩
     rw [hf] at hmi
     obtain⟨r',hr'⟩:=Ei hn hmi
     exact (q2 g r' (by show Ru f tn sh++_=_;rw [hok];exact hr')).same (s2.trans s3)
   · obtain⟨rfl,hn,_⟩:=hw
     rw [zK ae3,← List.length_map (as:=ts) (f:=fun t=>Lx f tn t.2),List.take_length] at hn
     exact q1 (by show Ru f tn sh++_=_;rw [hok];exact hn) _ (s2.trans s3)
 · refine⟨_,rfl,a,_,dx,_,_,rfl,s2 _ _ p1,T.dU,T.cu,(by rw [Px (by symm)]),qa,rfl,⟨_,cB.of (s2 _ _ p2)⟩,?_⟩
   refine qM (xs:=xs) (fun i σ H'=>az H2 H'∧((sh.map (Gn f tn)).take i).flatten=[]∧∃ u1 u2 u3 u4 u5 u6 u7 u8,σ=[some (.ref a),some (.ref d),some (.ref dt),u1,u2,u3,u4,u5,u6,u7,u8]) ⟨az.refl _,rfl,_,_,_,_,_,_,_,_,rfl⟩ (fun i σ H' _ hw=>cB.of ((s2.trans hw.1) _ _ p2)) (fun i x σ H' hxi hw Tt hT=>?_) (fun σ H' hw=>hk _ _ (by rw [lxs,← List.length_map (as:=sh) (f:=Gn f tn),List.take_length] at hw;exact hw))
   obtain⟨s3,hok,u1,u2,u3,u4,u5,u6,u7,u8,rfl⟩:=hw
   obtain⟨t,ht,sa,Ng,r,y,rs,ys,rfl,a1,a2,a3,a4,a5⟩:=zW p3 hxi
   have hi:=(List.getElem?_eq_some_iff.mp ht).1
   have htg:=hG.2.1 t (List.mem_of_getElem? ht)
   have s4:=s3.trans (zG hT (.tup [.int (i:Nat),.ref sa]))
   refine⟨Tt,_,rfl,jJ.of zB,rfl,_,_,rfl,_,_,rfl,rfl,?_⟩
   generalize upd H' Tt (.tup [.int (i:Nat),.ref sa])=H3 at s4
   have s5:=s2.trans s4
   dsimp only [bC,List.set_cons_succ,List.set_cons_zero]
   have hAt:=hA.1 t (List.mem_of_getElem? ht)
   refine yU (fun σ' G=>H3=G∧Rt f t=[]∧σ'=[some (.ref a),some (.ref d),some (.ref dt),some (.int (i:Nat)),some (.ref sa),u3,u4,u5,u6,u7,u8]) (fun σ' G hR=>?_) (fun _ hkE=>?_)
   rotate_left
   · refine⟨_,rfl,sa,_,Ng,_,_,rfl,s5 _ _ a1,T.dJ,T.gZ,rfl,?_⟩
     cases Bf:t.ea with
     | none=>exact⟨rfl,_,rfl,bD (hkE _ _ ⟨rfl,(by unfold Rt;rw [Bf]),rfl⟩)⟩
     | some z =>
       have e0:Rt f t=eaF f z:=by unfold Rt;rw [Bf]
       refine⟨rfl,_,rfl,cJ ?_⟩
       refine⟨_,rfl,sa,_,Ng,_,_,rfl,s5 _ _ a1,T.dJ,T.gZ,rfl,_,rfl,z,d,kvs,f,(by rw [Bf];rfl),s4 _ _ hd2,hKD.same s5,hAt.1 z Bf,fun h0=>hkE _ _ ⟨rfl,(by rw [e0];exact h0),rfl⟩,fun g r hf=>?_⟩
       obtain⟨r',hr'⟩:=Ug hok ht (by unfold Gn;exact Ue ⟨r,e0.trans hf⟩) ts
       exact (q2 g r' hr').same s5
   obtain⟨rfl,hen,rfl⟩:=hR
   refine⟨_,rfl,sa,_,Ng,_,_,rfl,s5 _ _ a1,T.dJ,T.gD,rfl,r,rfl,⟨_,cB.of (s5 _ _ a2)⟩,?_⟩
   refine yR (xs:=rs) (fun j σ G=>az H3 G∧((t.rows.map fun r=>Gm f tn r.sy).take j).flatten=[]∧∃ u3,σ=[some (.ref a),some (.ref d),some (.ref dt),some (.int (i:Nat)),some (.ref sa),u3,u4,u5,u6,u7,u8]) ⟨az.refl _,rfl,_,rfl⟩ (fun j σ G _ hw=>cB.of ((s5.trans hw.1) _ _ a2)) (fun j x σ G PB hw=>?_) (fun σ G hw=>?_)
   · obtain⟨s6,hn,u3,rfl⟩:=hw
     obtain⟨vU,ajg,hrr⟩:=zW a4 PB
     have hmi:(t.rows.map fun r=>Gm f tn r.sy)[j]? = some (Gm f tn vU.sy):=by rw [List.getElem?_map,ajg];rfl
     have s7:=s5.trans s6
     refine⟨_,rfl,x,vU,rfl,hrr.same s7,fun v hv=>?_⟩
     refine⟨_,rfl,_,rfl,v,vU.sy,d,kvs,dt,rows,f,tn,rfl,hv,hAt.2.1 vU (List.mem_of_getElem? ajg),(s4.trans s6) _ _ hd2,hKD.same s7,(s4.trans s6) _ _ Ui,hkt,fun h0 H4 s8=>⟨s6.trans s8,nil_of hn (by rw [hmi,h0]),_,rfl⟩,fun g r hf=>?_⟩
     rw [hf] at hmi
     obtain⟨r',hr'⟩:=Ug hok ht (g:=g) (by unfold Gn;rw [hen,List.nil_append];exact Ue (Ei hn hmi)) ts
     exact (q2 g r' hr').same s7
   · obtain⟨s6,hrn,u3,rfl⟩:=hw
     rw [zK a4,← List.length_map (as:=t.rows) (f:=fun r=>Gm f tn r.sy),List.take_length] at hrn
     have ajh:aeZ f tn t=[]:=hrn
     have s7:=s5.trans s6
     refine⟨(by show 1≤sizeLine;decide),fun le hle=>?_⟩
     have s8:=zG hle (.lst [.str zE])
     have he:(upd G le (.lst [.str zE])) le=some (.lst [.str zE]):=zB
     generalize upd G le (.lst [.str zE])=H4 at s8 he
     have s9:=s7.trans s8
     refine⟨_,rfl,a,_,dx,_,_,rfl,s9 _ _ p1,T.dU,T.cu,(by rw [Px (by symm)]),?_⟩
     refine⟨_,rfl,_,_,rfl,rfl,_,rfl,qa,xs,rfl,cB.of (s9 _ _ p2),fun lc hlc=>?_⟩
     rw [show (((i:Nat):Int)+1)=((i+1:Nat):Int) by omega,CV (by omega)]
     have s10:=zG hlc (.lst (xs.drop (i+1)))
     have hc:(upd H4 lc (.lst (xs.drop (i+1)))) lc=some (.lst (xs.drop (i+1))):=zB
     have he2:=s10 _ _ he
     generalize upd H4 lc (.lst (xs.drop (i+1)))=H5 at s10 hc he2
     have s11:=s9.trans s10
     have h10:=hG.1
     have p3d:=vg (i+1) p3
     have ld:(xs.drop (i+1)).length≤10:=by rw [List.length_drop];omega
     refine⟨lc,rfl,⟨_,cB.of hc⟩,?_⟩
     refine wO (xs:=xs.drop (i+1)) (zZ (m:=100) (by omega)) (fun j zs G2=>H5=G2∧zs=(((sh.drop (i+1)).take j).map (·.nm)).map V.str) ⟨rfl,rfl⟩ (fun j zs G2 hw=>hw.1 ▸ cB.of hc) (fun j x zs G2 PB _ hw=>?_) (fun zs G2 hw p hp=>?_)
     · obtain⟨rfl,rfl⟩:=hw
       obtain⟨t2,ae4,sb,sbx,_,_,_,_,rfl,b1,_⟩:=zW p3d PB
       refine nu ⟨_,rfl,sb,_,sbx,_,_,rfl,s11 _ _ b1,T.dJ,T.qC,rfl,rfl,?_⟩
       rw [yJ ae4,List.map_append,List.map_append];rfl
     obtain⟨rfl,rfl⟩:=hw
     rw [zK p3d,List.take_length]
     have s12:=zG hp (.lst (((sh.drop (i+1)).map (·.nm)).map V.str))
     refine⟨le,p,_,_,rfl,rfl,s12 _ _ he2,zB,(by rw [List.length_map,List.length_map,List.length_drop,sizeLine_eq,List.length_singleton];omega),fun lt hlt=>?_⟩
     have Vw:=s11.trans (s12.trans (zG hlt (.lst ([.str zE]++((sh.drop (i+1)).map (·.nm)).map V.str))))
     have s14:=s4.trans (s6.trans (s8.trans (s10.trans (s12.trans (zG hlt (.lst ([.str zE]++((sh.drop (i+1)).map (·.nm)).map V.str)))))))
     have hlt2:(upd (upd H5 p (.lst (((sh.drop (i+1)).map (·.nm)).map V.str))) lt (.lst ([.str zE]++((sh.drop (i+1)).map (·.nm)).map V.str))) lt=some (.lst ((tgt sh i).map V.str)):=by rw [zB];rfl
     dsimp only [bC,List.set_cons_succ,List.set_cons_zero]
     generalize upd (upd H5 p (.lst (((sh.drop (i+1)).map (·.nm)).map V.str))) lt (.lst ([.str zE]++((sh.drop (i+1)).map (·.nm)).map V.str))=H6 at Vw s14 hlt2
     refine⟨_,rfl,sa,_,Ng,_,_,rfl,Vw _ _ a1,T.dJ,T.qD,rfl,y,rfl,⟨_,cB.of (Vw _ _ a3)⟩,?_⟩
     refine yR (xs:=ys) (fun j σ G=>az H6 G∧((t.ways.map fun y=>Gm f tn y.2).take j).flatten=[]∧∃ u5 u6,σ=[some (.ref a),some (.ref d),some (.ref dt),some (.int (i:Nat)),some (.ref sa),u3,some (.ref lt),u5,u6,u7,u8]) ⟨az.refl _,rfl,_,_,rfl⟩ (fun j σ G _ hw=>cB.of ((Vw.trans hw.1) _ _ a3)) (fun j x σ G PB hw=>?_) (fun σ G hw=>?_)
     · obtain⟨Xf,hn,u5,u6,rfl⟩:=hw
       obtain⟨yw,hyw,ta,v,rfl,hta,hv⟩:=zW a5 PB
       have hmi:(t.ways.map fun y=>Gm f tn y.2)[j]? = some (Gm f tn yw.2):=by rw [List.getElem?_map,hyw];rfl
       have hAy:=hAt.2.2 yw (List.mem_of_getElem? hyw)
       have s16:=Vw.trans Xf
       refine⟨ta,_,rfl,jJ.of (s16 _ _ hta),rfl,_,_,rfl,_,_,rfl,rfl,?_⟩
       dsimp only [bC,List.set_cons_succ,List.set_cons_zero]
       refine⟨_,rfl,_,rfl,lt,_,rfl,.inl (cB.of (Xf _ _ hlt2)),rfl,lC _,_,rfl,?_⟩
       show if (!inV (.str yw.1) ((tgt sh i).map V.str))=true then _ else _
       rw [rn,decide_eq_true (show yw.1∈tgt sh i by rw [hAy.1];exact List.mem_cons_self ..)]
       refine bD ?_
       refine⟨_,rfl,_,rfl,_,rfl,v,yw.2,d,kvs,dt,rows,f,tn,rfl,hv.same s16,hAy.2,(s14.trans Xf) _ _ hd2,hKD.same s16,(s14.trans Xf) _ _ Ui,hkt,fun h0 G2 s17=>⟨Xf.trans s17,nil_of hn (by rw [hmi,h0]),_,_,rfl⟩,fun g r hf=>?_⟩
       rw [hf] at hmi
       obtain⟨r',hr'⟩:=Ug hok ht (g:=g) (by unfold Gn;rw [hen,ajh,List.nil_append,List.nil_append];exact Ei hn hmi) ts
       exact (q2 g r' hr').same s16
     · obtain⟨Xf,hn,u5,u6,rfl⟩:=hw
       rw [zK a5,← List.length_map (as:=t.ways) (f:=fun y=>Gm f tn y.2),List.take_length] at hn
       refine⟨s14.trans Xf,nil_of hok (by rw [List.getElem?_map,ht];show some (Rt f t++(aeZ f tn t++ae0 f tn t))=_;rw [hen,ajh,show ae0 f tn t=[] from hn];rfl),_,_,_,_,_,_,_,_,rfl⟩
end
def sF (tn:List Str) (p:Part):Option Str:=match p.2 with
 | some z=>if z∈tn then some z else none
 | none=>none
def Uj (tn:List Str) (ps:List Part):List Str:=ps.filterMap (sF tn)
theorem acz (tn:List Str) (a b:List Part):Uj tn (a++b)=Uj tn a++Uj tn b:=List.filterMap_append
def Rv (L:List rD) (t:rD):Bool:=!(Uj (L.map (·.1)) t.2).isEmpty
def nxT (L:List rD):List rD:=L.filter (Rv L)
def Clo (L:List rD):Prop:=∀ t∈L,Rv L t=true
theorem aaG {L:List rD}{t n:Nat} (hc:Clo L∨L.length+t≤n):Clo (nxT L)∨(nxT L).length+(t+1)≤n:=by
 by_cases e:∀ x∈L,Rv L x=true
 · have:nxT L=L:=List.filter_eq_self.mpr e
   rw [this]
   exact .inl e
 · rcases hc with c | c
   · exact absurd c e
   · refine .inr ?_
     have:(nxT L).length<L.length:=by
       refine Nat.lt_of_le_of_ne (List.length_filter_le ..) fun z=>e ?_
       exact List.filter_eq_self.mp (List.filter_sublist.eq_of_length z)
     omega
def Uk:Nat→List rD→List rD
 | 0,L=>L
 | n+1,L=>nxT (Uk n L)
theorem Vx:∀ (n:Nat) (L:List rD),(Uk n L).Sublist L
 | 0,L=>List.Sublist.refl _
 | n+1,L=>(List.filter_sublist).trans (Vx n L)
theorem acA {L:List rD}{n:Nat} (h:Clo L∨L.length+n≤n):Clo L:=h.elim id fun h=>by
 cases L with
 | nil=>intro t ht;cases ht
 | cons a r=>rw [List.length_cons] at h;omega
def ae7:Sp:=fun vs H Q _=>∃ (l d:Addr) (ps:List Part) (kvs:List (Key × V)) (tn:List Str),vs=[.ref l,.ref d]∧PsR H l ps∧ps.length≤100∧Rd H d (.dK kvs)∧(∀ z,(dW kvs (.inr z)).isSome=decide (z∈tn)) ∧
 ∀ l',H l'=none→Q (.ref l') (upd H l' (.lst ((Uj tn ps).map V.str)))
section
variable {P:Program}{w:World}{K:W.Frag}{mg:Str→Option Value}{base:Heap}{A:dq}
theorem Ul (T:Txt K mg A):aN P w K mg base dR 1 A.vK A.Bx ["parts","totals"] ae7:=by
 refine T.WL.ok T9 (fun vs H Q E h=>?_) (fun cdv A0 outer s H vs Q E hr h=>?_)
 · obtain⟨l,d,ps,kvs,tn,rfl,_⟩:=h
   rfl
 obtain⟨l,d,ps,kvs,tn,rfl,⟨xs,hl,hp⟩,hz,hd,hk,q⟩:=h
 refine⟨_,(zF (zR (nQ (xJ (xA (x:="times") (M:=["parts","totals"]) rfl (by rfl)) (by rfl) (by symm)) rfl (yO (pv 0)) (fun _ _ _ _=>(z6 (zV (Tf (xD hr)) (pv 1) (pv 3) (by rfl)))) (fun _ _ _ _=>(pv 1))))),?_⟩
 refine⟨_,rfl,l,rfl,⟨_,cB.of hl⟩,?_⟩
 have lx:=zK hp
 refine nR (xs:=xs) (zZ (m:=100) (by omega)) (fun i ys G=>H=G∧ys=(Uj tn (ps.take i)).map V.str) ⟨rfl,rfl⟩ (fun i ys G hw=>hw.1 ▸ cB.of hl) (fun i x ys G hxi _ hw=>?_) (fun ys G hw p2 hp2=>?_)
 · obtain⟨rfl,rfl⟩:=hw
   obtain⟨p,hpi,t,rfl,ht⟩:=zW hp hxi
   refine⟨t,_,_,rfl,jJ.of ht,?_⟩
   rw [yJ hpi,acz,List.map_append]
   have e1:Uj tn [p]=(sF tn p).toList:=by
     unfold Uj
     rw [List.filterMap_cons]
     cases sF tn p <;> rfl
   rw [e1]
   cases hq:p.2 with
   | none =>
     refine⟨_,rfl,_,rfl,.inr ⟨d,_,rfl,rfl,hd,_,rfl,bD ⟨rfl,?_⟩⟩⟩
     unfold sF;rw [hq];simp
   | some z =>
     refine⟨_,rfl,_,rfl,.inl ⟨d,dW kvs (.inr z),rfl,.inl ⟨_,.inr z,hd,rfl,rfl⟩,_,rfl,?_⟩⟩
     rw [hk z]
     by_cases c:z∈tn
     · rw [decide_eq_true c]
       refine cJ ⟨_,rfl,rfl,?_⟩
       unfold sF;rw [hq];dsimp only;rw [if_pos c];rfl
     · rw [decide_eq_false c]
       refine bD ⟨rfl,?_⟩
       unfold sF;rw [hq];dsimp only;rw [if_neg c];simp
 · obtain⟨rfl,rfl⟩:=hw
   rw [lx,List.take_length]
   exact q p2 hp2
end
theorem aaH {kvs:List (Key × V)}{k:Key}{v:V} (h:dW kvs k=some v):(k,v)∈kvs:=by
 unfold dW at h
 obtain⟨kv,h1,rfl⟩:=Option.map_eq_some_iff.mp h
 have h2:=List.find?_some h1
 have h3:kv.1=k:=of_decide_eq_true h2
 rw [← h3]
 exact List.mem_of_find?_eq_some h1
theorem ae8 {H:Hp}{kvs:List (Key × V)}{L:List rD} (h:Paired (Xe H) kvs L) (nd:(L.map (·.1)).Nodup) {t:rD} (ht:t∈L):∃ l,dW kvs (.inr t.1)=some (.ref l)∧PsR H l t.2:=by
 obtain⟨i,hi⟩:=List.getElem?_of_mem ht
 obtain⟨kv,hkv,e1,l,e2,hl⟩:=lB h hi
 have hin:=rw_in h t.1
 rw [decide_eq_true (List.mem_map_of_mem ht)] at hin
 obtain⟨v,hv⟩:=Option.isSome_iff_exists.mp hin
 obtain⟨j,hj⟩:=List.getElem?_of_mem (aaH hv)
 obtain⟨t2,Ui,f1,l2,f2,hl2⟩:=zW h hj
 have e3:t2.1=t.1:=(Sum.inr.inj f1).symm
 have lj:=(List.getElem?_eq_some_iff.mp Ui).1
 have:i=j:=by
   have li:=(List.getElem?_eq_some_iff.mp hi).1
   exact (List.getElem?_inj (by rw [List.length_map];exact li) nd).mp (by rw [List.getElem?_map,List.getElem?_map,hi,Ui];show some t.1=some t2.1;rw [e3])
 subst this
 rw [hi] at Ui
 cases Ui
 exact⟨l2,by rw [hv];exact congrArg some f2,hl2⟩
def avS (A:dq):Sp:=fun vs H Q _=>∃ a sh ts,vs=[.ref a]∧O5 A H a sh ts∧GP sh ts∧(ts.map (·.1)).Nodup∧Uk ts.length ts=[]∧∀ H',az H H'→Q .non H'
section
variable {P:Program}{w:World}{K:W.Frag}{mg:Str→Option Value}{base:Heap}{A:dq}
theorem acB (T:Txt K mg A):aN P w K mg base dR 3 A.jo A.mR ["paper"] (avS A):=by
 have Xg:=Ul (P:=P) (w:=w) (base:=base) T
 refine T.Fq.ok iR (fun vs H Q E h=>?_) (fun cdv A0 outer s H vs Q E hr h=>?_)
 · obtain⟨a,sh,ts,rfl,_⟩:=h
   rfl
 obtain⟨a,sh,ts,rfl,hP,hG,hnd,hit,q1⟩:=h
 refine⟨_,(zD (zS (i:=1) iR.nd rfl ‹0› (yG (xQ rfl) (by rfl) T.Ol Bt.dict (zA (zN (pv 0) rfl) zC)))
     (zD (yT PassesOwn.never rfl (vC rfl T.GQ (zA (zY xB (by rfl) T.Ai PySem.boot_len (zA (zN (pv 0) rfl) zC)) zC)) (zX (i:=2) iR.nd rfl ‹0›) (zF (zS (i:=1) iR.nd rfl ‹0› (yG (xQ rfl) (by rfl) T.Ol Bt.dict (zA (nQ (xJ (xA (x:="name") (M:=["paper","totals","turn","path",""]) rfl (by rfl)) (by rfl) (by symm)) rfl (Zk (pv 1)) (fun _ _ _ _=>Qx (by exact (z6 (zV ac2 (zY xB (by rfl) T.Ai PySem.boot_len (zA (zO Xg ‹hr› rfl T.WQ T.WN T.WM .nil zM (zA (pv 1) (zA (pv 3) zC))) zC)) zH (yD _)))) (by dsimp only [eE] <;> rfl)) (fun _ _ _ _=>(yL (zA (pv 0) (zA (pv 1) zC))))) zC)))))
     (zD (yF (zV xP (zY Wc (by rfl) T.Ai PySem.boot_len (zA (pv 1) zC)) zH (yD _)) (zF abB) zU)
     (zD Dt
     (zD Dt
     (zD Dt
     (zF Dt))))))),?_⟩
 obtain⟨dx,u,qa,qb,xs,p1,p2,p3,tx,hx,hxt⟩:=hP
 have ltx:=zK hxt
 have h100:=hG.2.2.1
 obtain⟨rows,hpr,Bu⟩:=GX hxt
 have lrw:=zK Bu
 refine⟨_,rfl,a,_,dx,_,_,rfl,p1,T.dU,T.eG,rfl,qb,tx,rows,rfl,hx,hpr,fun d hd=>?_⟩
 rw [O8 (rw_nd Bu hnd)]
 have s0:=zG hd (.dK rows)
 dsimp only [bC,List.set_cons_succ,List.set_cons_zero]
 refine yU (fun σ' G=>∃ u1 u2 u3 d kvs,σ'=[some (.ref a),some (.ref d),u1,u2,u3]∧az H G∧H d=none∧G d=some (.dK kvs)∧Paired (Xe H) kvs (Uk ts.length ts)∧Clo (Uk ts.length ts)) (fun σ' G hR=>?_) (fun _ hk=>?_)
 · obtain⟨u1,u2,u3,d,kvs,rfl,sG,hdN,hdG,hrd,cl⟩:=hR
   rw [hit] at hrd
   have hk0:kvs=[]:=List.eq_nil_of_length_eq_zero (zK hrd)
   subst hk0
   refine⟨_,rfl,d,_,rfl,hdG,rfl,_,rfl,?_⟩
   exact cJ (q1 G sG)
 · refine⟨_,rfl,a,_,dx,_,_,rfl,s0 _ _ p1,T.dU,T.eG,rfl,qb,tx,rfl,.inl (cB.of (s0 _ _ hx)),_,rfl,(by omega),(by omega),?_⟩
   rw [show ((tx.length:Nat):Int).toNat=ts.length by rw [ltx];rfl]
   refine rK (fun t σ G=>∃ u1 u2 u3 d kvs,σ=[some (.ref a),some (.ref d),u1,u2,u3]∧az H G∧H d=none∧G d=some (.dK kvs)∧Paired (Xe H) kvs (Uk t ts)∧(Clo (Uk t ts)∨(Uk t ts).length+t≤ts.length)) ⟨_,_,_,d,rows,rfl,s0,hd,zB,Bu,.inr (by show ts.length+0≤_;omega)⟩ (fun t σ G ht hw=>?_) (fun σ G hw=>?_)
   · obtain⟨u1,u2,u3,d,kvs,rfl,sG,hdN,hdG,hrd,hc⟩:=hw
     have sub:=Vx t ts
     have hprog:Clo (Uk (t+1) ts)∨(Uk (t+1) ts).length+(t+1)≤ts.length:=aaG hc
     show ∃ _,_
     have hnx:Uk (t+1) ts=nxT (Uk t ts):=rfl
     generalize Uk (t+1) ts=L2 at hprog hnx
     subst hnx
     generalize Uk t ts=L at hrd sub hprog
     have ndL:(L.map (·.1)).Nodup:=hnd.sublist (sub.map _)
     have lkv:=zK hrd
     have lL:L.length≤100:=Nat.le_trans sub.length_le h100
     refine⟨_,rfl,d,_,rfl,.inl hdG,fun o=>?_⟩
     have sF':az H (upd G d (.jG o (.dK kvs))):=fun b ob hb=>by rw [zL (zI hb hdN)];exact sG _ _ hb
     have hF:(upd G d (.jG o (.dK kvs))) d=some (.jG o (.dK kvs)):=zB
     generalize upd G d (.jG o (.dK kvs))=G1 at sF' hF
     refine QF (kvs:=kvs) (zZ (m:=1000) (by omega)) (fun i ys G'=>az G1 G'∧∃ rs,Paired (PrR G') ys rs∧Paired (Xe H) rs ((L.take i).filter (Rv L))) ⟨az.refl _,[],.nil,.nil⟩ (fun i ys G' hw=>hw.1 _ _ hF) (fun i x ys G' hxi _ hw Tt hT=>?_) (fun ys G' hw p2 hp2=>?_)
     · obtain⟨s1,rs,hy,hrs⟩:=hw
       obtain⟨tt,htt,e1,l,e2,hl⟩:=zW hrd hxi
       obtain⟨kx,vx⟩:=x
       cases e1
       cases e2
       have sT:=zG hT (.tup [kV (Sum.inr tt.1),V.ref l])
       have s2:=s1.trans sT
       generalize upd G' Tt (.tup [kV (Sum.inr tt.1),V.ref l])=G2 at sT s2
       refine⟨_,rfl,_,rfl,l,d,tt.2,kvs,L.map (·.1),rfl,hl.kp (.of (sF'.trans s2)),hG.2.2.2 tt (sub.subset (List.mem_of_getElem? htt)),.inr ⟨o,s2 _ _ hF⟩,rw_in hrd,fun l' hl'=>?_⟩
       have s3:=zG hl' (.lst ((Uj (L.map (·.1)) tt.2).map V.str))
       refine⟨l',_,rfl,.inl (cB.of zB),_,_,rfl,rfl,_,rfl,?_⟩
       generalize upd G2 l' (.lst ((Uj (L.map (·.1)) tt.2).map V.str))=G3 at s3
       rw [yJ htt,List.filter_append]
       have hh:(decide ((((Uj (L.map (·.1)) tt.2).map V.str).length:Int) > 0))=Rv L tt:=by
         unfold Rv
         rw [List.length_map]
         cases hc:Uj (L.map (·.1)) tt.2 with
         | nil=>rfl
         | cons a r=>exact decide_eq_true (by rw [List.length_cons];omega)
       show if (decide ((((Uj (L.map (·.1)) tt.2).map V.str).length:Int) > 0))=true then _ else _
       rw [hh]
       refine jY (fun c=>?_) (fun c=>?_)
       · refine⟨_,rfl,_,rfl,(by show 2≤sizeLine;decide),fun t2 Ui=>?_⟩
         have s4:=zG Ui (.tup [V.str tt.1,V.ref l])
         refine⟨s2.trans (s3.trans s4),rs++[(.inr tt.1,.ref l)],?_,?_⟩
         · exact yE (zJ hy fun _ _ ⟨b,e,hb⟩=>⟨b,e,(sT.trans (s3.trans s4)) _ _ hb⟩) (.cons ⟨t2,rfl,zB⟩ .nil)
         · rw [List.filter_cons,if_pos c]
           exact yE hrs (.cons ⟨rfl,l,rfl,hl⟩ .nil)
       · refine⟨s2.trans s3,rs,zJ hy fun _ _ ⟨b,e,hb⟩=>⟨b,e,(sT.trans s3) _ _ hb⟩,?_⟩
         rw [List.filter_cons,if_neg c,List.filter_nil,List.append_nil]
         exact hrs
     · obtain⟨s1,rs,hy,hrs⟩:=hw
       rw [lkv,List.take_length] at hrs
       have hrs:Paired (Xe H) rs (nxT L):=hrs
       have s2:=zG hp2 (.lst ys)
       refine⟨p2,ys,rs,rfl,zB,zJ hy fun _ _ ⟨b,e,hb⟩=>⟨b,e,s2 _ _ hb⟩,fun d2 hd2=>?_⟩
       rw [O8 (rw_nd hrs (ndL.sublist (List.filter_sublist.map _)))]
       have s3:=sF'.trans (s1.trans s2)
       exact⟨_,_,_,d2,rs,rfl,s3.trans (zG hd2 _),same_none s3 hd2,zB,hrs,hprog⟩
   · obtain⟨u1,u2,u3,d,kvs,rfl,sG,hdN,hdG,hrd,hc⟩:=hw
     exact hk _ _ ⟨_,_,_,d,kvs,rfl,sG,hdN,hdG,hrd,acA hc⟩
end
abbrev OT:=List (Option Str × Int)
def kO:Option Str→Option Key
 | none=>none
 | some z=>some (.inr z)
theorem Um {a b:Option Str} (h:kO a=kO b):a=b:=by
 cases a with
 | none =>
   cases b with
   | none=>rfl
   | some _=>cases h
 | some x =>
   cases b with
   | none=>cases h
   | some y=>exact congrArg some (Sum.inr.inj (Option.some.inj h))
def tW (t:OT):List (Option Key × V):=t.map fun p=>(kO p.1,.int p.2)
def gtO (t:OT) (q:Option Str):Int:=((t.find? fun p=>decide (p.1=q)).map (·.2)).getD 0
def ptO (t:OT) (q:Option Str) (x:Int):OT:=if t.any (fun p=>decide (p.1=q)) then t.map (fun p=>if p.1=q then (p.1,x) else p) else t++[(q,x)]
theorem afa (a b:Option Str):decide (kO a=kO b)=decide (a=b):=by
 by_cases e:a=b
 · rw [e,decide_eq_true rfl,decide_eq_true rfl]
 · rw [decide_eq_false e,decide_eq_false fun h=>e (Um h)]
theorem Vy (q:Option Str):∀ t:OT,dW (tW t) (kO q)=((t.find? fun p=>decide (p.1=q)).map (·.2)).map V.int
 | []=>rfl
 | a::r=>by
   by_cases e:a.1=q
   · have:tW (a::r)=(kO a.1,V.int a.2)::tW r:=rfl
     rw [this,xH (by rw [e]),List.find?_cons,decide_eq_true e];rfl
   · have:tW (a::r)=(kO a.1,V.int a.2)::tW r:=rfl
     rw [this,xG (fun h=>e (Um h)),Vy q r,List.find?_cons,decide_eq_false e]
theorem acC (t:OT) (q:Option Str):(dW (tW t) (kO q)).getD (.int 0)=.int (gtO t q):=by
 rw [Vy]
 unfold gtO
 cases (t.find? fun p=>decide (p.1=q)).map (·.2) <;> rfl
theorem acD (t:OT) (q:Option Str) (x:Int):putK (tW t) (kO q) (.int x)=tW (ptO t q x):=by
 unfold putK ptO
 have e:((tW t).any fun kv=>decide (kv.1=kO q))=t.any fun p=>decide (p.1=q):=by
   unfold tW
   rw [List.any_map]
   congr 1
   funext p
   exact afa p.1 q
 rw [e]
 split
 · unfold tW
   rw [List.map_map,List.map_map]
   refine List.map_congr_left fun p _=>?_
   show (if kO p.1=kO q then (kO p.1,V.int x) else (kO p.1,V.int p.2))=_
   by_cases c:p.1=q
   · rw [if_pos (by rw [c])]
     show _=(kO (if p.1=q then (p.1,x) else p).1,V.int (if p.1=q then (p.1,x) else p).2)
     rw [if_pos c]
   · rw [if_neg (fun h=>c (Um h))]
     show _=(kO (if p.1=q then (p.1,x) else p).1,V.int (if p.1=q then (p.1,x) else p).2)
     rw [if_neg c]
 · unfold tW
   rw [List.map_append];rfl
def OB (t:OT) (c b:Nat):Prop:=t.length≤c∧∀ p∈t,p.2.natAbs≤b
theorem OB.get {t:OT}{c b:Nat} (h:OB t c b) (q:Option Str):(gtO t q).natAbs≤b:=by
 unfold gtO
 cases e:t.find? fun p=>decide (p.1=q) with
 | none=>exact Nat.zero_le _
 | some p=>exact h.2 p (List.mem_of_find?_eq_some e)
theorem OB.put {t:OT}{c b b':Nat} (h:OB t c b) {q:Option Str}{x:Int} (hx:x.natAbs≤b') (hb:b≤b'):OB (ptO t q x) (c+1) b':=by
 unfold ptO
 split
 · refine⟨by rw [List.length_map];have:=h.1;omega,fun p hp=>?_⟩
   obtain⟨y,hy,rfl⟩:=List.mem_map.mp hp
   split
   · exact hx
   · exact Nat.le_trans (h.2 y hy) hb
 · refine⟨by rw [List.length_append];have:=h.1;show t.length+1≤_;omega,fun p hp=>?_⟩
   rcases List.mem_append.mp hp with hp | hp
   · exact Nat.le_trans (h.2 p hp) hb
   · rw [List.mem_singleton.mp hp];exact hx
theorem acE {t:OT}{k:Option Str}{x:Int}{r:Option Str × Int} (h:r∈ptO t k x):r.1=k∨∃ r'∈t,r'.1=r.1:=by
 unfold ptO at h
 split at h
 · obtain⟨y,hy,e⟩:=List.mem_map.mp h
   split at e
   · exact .inr ⟨y,hy,by rw [← e]⟩
   · exact .inr ⟨y,hy,by rw [← e]⟩
 · rcases List.mem_append.mp h with h | h
   · exact .inr ⟨r,h,rfl⟩
   · exact .inl (by rw [List.mem_singleton.mp h])
theorem adx {l:OT}{i:Nat}{x:Option Key × V} (h:(tW l)[i]? = some x):∃ q,l[i]? = some q∧x=(kO q.1,V.int q.2):=by
 unfold tW at h
 rw [List.getElem?_map] at h
 obtain⟨q,e,h⟩:=Option.map_eq_some_iff.mp h
 exact⟨q,e,h.symm⟩
def GTs (ts:List rD):Prop:=(ts.map (·.1)).Nodup∧∀ t∈ts,t.2.length≤6∧∀ p∈t.2,p.1.natAbs≤2*10 ^ 18
theorem ibq {x:Int} (h:x.natAbs≤10 ^ 30):ib x≤60000000:=Nat.le_trans (Ys (m:=1000) (Nat.lt_of_le_of_lt h (by symm))) (by decide)
def NoS (ts:List rD) (tt:rD):Prop:=∀ p∈tt.2,∀ y,p.2=some y→y∉ts.map (·.1)
def InK (t:OT) (ps:List Part):Prop:=∀ r∈t,∃ p∈ps,p.2=r.1
def spG (P:Program) (w:World):Sp:=fun vs H Q _=>∃ (dt dk:Addr) (rows:List (Key × V)) (ts:List rD) (tt:rD),vs=[.ref dt,.str tt.1,.ref dk]∧H dt=some (.dK rows)∧Paired (Xe H) rows ts∧GTs ts∧tt∈ts∧NoS ts tt∧H dk=some (.dK []) ∧
 ∀ d t H',Fr [dk] H H'→H d=none→H' d=some (dO P w d (tW t))→InK t tt.2→t.length≤6→Q (.ref d) H'
section
variable {P:Program}{w:World}{K:W.Frag}{mg:Str→Option Value}{base:Heap}{A:dq}
theorem Rx (T:Txt K mg A):aN P w K mg base dR 2 A.oK A.rQ ["totals","name","known"] (spG P w):=by
 have yt:aN P w K mg base dR 1 A.oK A.rQ ["totals","name","known"] (fun _ _ _ _=>False):=⟨fun vs H Q E h=>h.elim,fun _ _ _ _ _ _ _ _ _ _ _ _ _ h=>h.elim⟩
 refine T.Tu.ok iI (fun vs H Q E h=>?_) (fun cdv A0 outer s H vs Q E hr h=>?_)
 · obtain⟨dt,dk,rows,ts,tt,rfl,_⟩:=h
   rfl
 obtain⟨dt,dk,rows,ts,tt,rfl,hdt,Bu,hG,ht,hno,hdk,q⟩:=h
 refine⟨_,(zD (yF (zV (rO (xD hr)) (pv 1) (pv 2) (by rfl)) (zD (zS (i:=3) iI.nd rfl ‹0› (ZF (P:=P) (w:=w) rfl rfl))
     (zD (yT PassesOwn.never rfl (yO (m6 (xD hr) (pv 0) (pv 1) (fun _ _=>rfl))) (j5 rfl (yB (zX (i:=4) iI.nd rfl ‹0›) (yB (zX (i:=5) iI.nd rfl ‹0›) xL))) (zD (zS (i:=6) iI.nd rfl ‹0› (ur (zV (Tf (xD hr)) (pv 5) (pv 0) (by rfl)) (zO yt ‹hr› rfl T.Ip T.Io T.Im .nil zM (zA (pv 0) (zA (pv 5) (zA (pv 2) zC)))) (Wv (P:=P) (w:=w) rfl rfl (pv 5) zH)))
     (zF (yT PassesOwn.never rfl (Wx (P:=P) (w:=w) rfl rfl (pv 6)) (j5 rfl (yB (zX (i:=7) iI.nd rfl ‹0›) (yB (zX (i:=8) iI.nd rfl ‹0›) xL))) (zF (ZG (P:=P) (w:=w) rfl rfl (pv 3) (pv 7) (zP xO (Ww (P:=P) (w:=w) rfl rfl (pv 3) (pv 7) zH ⟨rfl,rfl,rfl,rfl⟩) (zP rJ (pv 4) (pv 8))) rfl))))))
     (zF (Gz (xD hr) (pv 2) (pv 1) (pv 3) rfl)))) zU)
     (zF (zR (m6 (xD hr) (pv 2) (pv 1) (fun _ _=>rfl))))),?_⟩
 have hget:=jt.k (k:=.inr tt.1) hdk
 obtain⟨g1,g2⟩:=hG.2 tt ht
 obtain⟨lp,hlp,xs,hl,hxs⟩:=ae8 Bu hG.1 ht
 have lxs:=zK hxs
 refine yU (fun σ' G=>∃ u3 u4 u5 u6 u7 u8 d t,σ'=[some (.ref dt),some (.str tt.1),some (.ref dk),u3,u4,u5,u6,u7,u8]∧Fr [dk] H G∧H d=none∧G d=some (dO P w d (tW t))∧InK t tt.2∧t.length≤6∧G dk=some (.dK (putK [] (.inr tt.1) (.ref d)))) (fun σ' G hR=>?_) (fun _ hkk=>?_)
 · obtain⟨u3,u4,u5,u6,u7,u8,d,t,rfl,F,hd,hd',hin,hl6,hkd⟩:=hR
   have hg:=jt.k (k:=.inr tt.1) hkd
   rw [lO,if_pos rfl] at hg
   exact⟨_,rfl,_,rfl,dk,_,rfl,hg,q d t G F hd hd' hin hl6⟩
 refine⟨_,rfl,_,rfl,dk,_,rfl,hget,_,rfl,cJ ?_⟩
 intro dn hdn
 have s0:=zG hdn (dO P w dn [])
 have hgt:=jt.k (k:=.inr tt.1) (s0 _ _ hdt)
 rw [hlp] at hgt
 dsimp only [bC,List.set_cons_succ,List.set_cons_zero]
 refine⟨_,rfl,_,rfl,dt,_,rfl,hgt,lp,rfl,⟨_,cB.of (s0 _ _ hl)⟩,?_⟩
 have hd1:(upd H dn (dO P w dn [])) dn=some (dO P w dn (tW [])):=zB
 generalize upd H dn (dO P w dn [])=H1 at s0 hd1 hgt
 refine yR (xs:=xs) (fun i σ G=>∃ u4 u5 u6 u7 u8 ac,σ=[some (.ref dt),some (.str tt.1),some (.ref dk),some (.ref dn),u4,u5,u6,u7,u8]∧az H G∧G dn=some (dO P w dn (tW ac))∧InK ac tt.2∧OB ac i (i*(2*10 ^ 18))) ⟨_,_,_,_,_,[],rfl,s0,hd1,(fun r hr=>by cases hr),⟨Nat.le_refl _,fun p hp=>by cases hp⟩⟩ (fun i σ G _ hw=>?_) (fun i x σ G hxi hw=>?_) (fun σ G hw=>?_)
 · obtain⟨_,_,_,_,_,ac,rfl,sG,_⟩:=hw
   exact cB.of (sG _ _ hl)
 · obtain⟨u4,u5,u6,u7,u8,ac,rfl,sG,hko,hin,hob⟩:=hw
   obtain⟨p,hpi,tq,rfl,htq⟩:=zW hxs hxi
   have hi:i<tt.2.length:=(List.getElem?_eq_some_iff.mp hpi).1
   have hpm:=List.mem_of_getElem? hpi
   have hp1:=g2 p hpm
   refine⟨tq,_,rfl,jJ.of (sG _ _ htq),rfl,_,_,rfl,_,_,rfl,rfl,?_⟩
   dsimp only [bC,List.set_cons_succ,List.set_cons_zero]
   refine yU (fun σ' G'=>∃ d,σ'=[some (.ref dt),some (.str tt.1),some (.ref dk),some (.ref dn),some (.int p.1),some (nv p.2),some (.ref d),u7,u8]∧az H G'∧H d=none∧d≠dn∧G' dn=some (dO P w dn (tW ac))∧G' d=some (dO P w d (tW [(p.2,1)]))) (fun σ' G' hR=>?_) (fun _ Ni=>?_)
   · obtain⟨d,rfl,sG',hdN,ndd,avV,hd'⟩:=hR
     refine⟨_,rfl,d,_,rfl,.inl hd',fun o en=>?_⟩
     have sF:az H (upd G' d (.jG o (dO P w d (tW [(p.2,1)])))):=fun b u hb=>by rw [zL (zI hb hdN)];exact sG' b u hb
     have ajj:(upd G' d (.jG o (dO P w d (tW [(p.2,1)])))) dn=some (dO P w dn (tW ac)):=by rw [zL (Ne.symm ndd)];exact avV
     have hF:(upd G' d (.jG o (dO P w d (tW [(p.2,1)])))) d=some (.jG o (dO P w d (tW [(p.2,1)]))):=zB
     generalize upd G' d (.jG o (dO P w d (tW [(p.2,1)])))=G2 at sF ajj hF
     refine Tg (kvs:=tW [(p.2,1)]) en (fun j σ G3=>∃ u7 u8 ac',σ=[some (.ref dt),some (.str tt.1),some (.ref dk),some (.ref dn),some (.int p.1),some (nv p.2),some (.ref d),u7,u8]∧Fr [dn] G2 G3∧G3 dn=some (dO P w dn (tW ac'))∧InK ac' tt.2∧OB ac' (i+j) ((i+j)*(2*10 ^ 18))) ⟨_,_,ac,rfl,Fr.of (az.refl _),ajj,hin,hob⟩ (fun j σ G3 _ hw=>?_) (fun j kv σ G3 hkj hw Tt hT=>?_) (fun σ G3 hw=>?_)
     · obtain⟨_,_,ac',rfl,F3,_⟩:=hw
       exact F3 _ _ hF (Bc ndd)
     · obtain⟨u7',u8',ac',rfl,F3,afc,afd,aaL⟩:=hw
       obtain⟨qt,hqj,rfl⟩:=adx hkj
       have hq0:qt=(p.2,1):=List.mem_singleton.mp (List.mem_of_getElem? hqj)
       have hj1:j<1:=(List.getElem?_eq_some_iff.mp hqj).1
       subst hq0
       have sT:=zG hT (.tup [oV (kO p.2),V.int 1])
       have acF:=sT _ _ afc
       have F4:=F3.trans (Fr.of sT)
       refine⟨Tt,_,rfl,jJ.of zB,rfl,_,_,rfl,_,_,rfl,rfl,?_⟩
       dsimp only
       generalize upd G3 Tt (.tup [oV (kO p.2),V.int 1])=G4 at F4 acF
       have hm:=aaL.get p.2
       have hsum:=Int.natAbs_add_le (gtO ac' p.2) (p.1*1)
       have b30:10*(2*10 ^ 18)≤10 ^ 30:=by symm
       dsimp only [bC,List.set_cons_succ,List.set_cons_zero]
       refine⟨_,rfl,dn,_,rfl,.inl acF,_,rfl,_,kO p.2,.inl acF,rfl,?_⟩
       rw [acC]
       refine⟨_,rfl,_,rfl,_,_,rfl,rfl,⟨ibq (by omega),by decide⟩,_,_,rfl,rfl,?_⟩
       have hlen:(tW ac').length<sizeLine:=by
         unfold tW
         rw [List.length_map,sizeLine_eq]
         have:=aaL.1
         omega
       refine⟨_,rfl,_,rfl,dn,_,kO p.2,rfl,rfl,acF,hlen,?_⟩
       rw [acD]
       refine⟨_,_,ptO ac' p.2 (gtO ac' p.2+p.1*1),rfl,F4.upd (List.mem_singleton.mpr rfl) _,zB,fun r hr'=>?_,?_⟩
       · rcases acE hr' with e | ⟨r',h1,e⟩
         · exact⟨p,hpm,e.symm⟩
         · obtain⟨p',hp',e'⟩:=afd r' h1
           exact⟨p',hp',e'.trans e⟩
       · refine aaL.put ?_ ?_
         · rw [← Nat.add_assoc,Nat.succ_mul]
           omega
         · exact Nat.mul_le_mul_right _ (by omega)
     · obtain⟨u7',u8',ac',rfl,F3,afc,afd,aaL⟩:=hw
       exact⟨_,_,_,_,_,ac',rfl,fun b u hb=>F3 _ _ (sF b u hb) (Bc (zI hb hdn)),afc,afd,aaL⟩
   · have al:∀ pd,G pd=none→∃ d,[some (.ref dt),some (.str tt.1),some (.ref dk),some (.ref dn),some (.int p.1),some (nv p.2),some (.ref pd),u7,u8]=[some (V.ref dt),some (.str tt.1),some (.ref dk),some (.ref dn),some (.int p.1),some (nv p.2),some (.ref d),u7,u8]∧az H (upd G pd (dO P w pd [(kO p.2,.int 1)]))∧H d=none∧d≠dn∧(upd G pd (dO P w pd [(kO p.2,.int 1)])) dn=some (dO P w dn (tW ac))∧(upd G pd (dO P w pd [(kO p.2,.int 1)])) d=some (dO P w d (tW [(p.2,1)])):=fun pd hpd=>by
       have sP:=zG hpd (dO P w pd [(kO p.2,.int 1)])
       exact⟨pd,rfl,sG.trans sP,same_none sG hpd,Ne.symm (zI hko hpd),sP _ _ hko,zB⟩
     cases ey:p.2 with
     | none =>
       rw [ey] at al Ni
       refine⟨_,rfl,_,rfl,.inr ⟨dt,_,rfl,rfl,.inl (sG _ _ hdt),_,rfl,bD fun pd hpd=>⟨_,rfl,zB,none,rfl,?_⟩⟩⟩
       rw [yA]
       exact Ni _ _ (al pd hpd)
     | some y =>
       have hy2:=rw_in Bu y
       rw [decide_eq_false (hno p hpm y ey)] at hy2
       rw [ey] at al Ni
       refine⟨_,rfl,_,rfl,.inl ⟨dt,_,rfl,jt.k (k:=.inr y) (sG _ _ hdt),_,rfl,?_⟩⟩
       rw [hy2]
       refine bD fun pd hpd=>⟨_,rfl,zB,some (.inr y),rfl,?_⟩
       rw [yA]
       exact Ni _ _ (al pd hpd)
 · obtain⟨u4,u5,u6,u7,u8,ac,rfl,sG,hko,hin,hob⟩:=hw
   refine⟨_,rfl,_,rfl,_,rfl,dk,_,rfl,J5.k (k:=.inr tt.1) (sG _ _ hdk) (by decide),?_⟩
   exact hkk _ _ ⟨_,_,_,_,_,_,dn,ac,rfl,(Fr.of sG).upd (List.mem_singleton.mpr rfl) _,hdn,(by rw [zL (Ne.symm (zI hdk hdn))];exact hko),hin,(by have:=hob.1;omega),zB⟩
end
def avW (A:dq):Sp:=fun vs H Q _=>∃ a da u q1 q2 ts tt,vs=[.ref a,.str tt.1]∧H a=some (oPa A da u q1 q2)∧TsR H q2 ts∧GTs ts∧tt∈ts∧NoS ts tt∧∀ l (zs:List Str) H',az H H'→H' l=some (.lst (zs.map V.str))→(∀ y∈zs,∃ p∈tt.2,p.2=some y)→Q (.ref l) H'
section
variable {P:Program}{w:World}{K:W.Frag}{mg:Str→Option Value}{base:Heap}{A:dq}
theorem Gq (T:Txt K mg A):aN P w K mg base dR 8 A.jM A.oM ["paper","name"] (avW A):=by
 have yt:=Rx (P:=P) (w:=w) (base:=base) T
 refine T.Ir.ok Gh (fun vs H Q E h=>?_) (fun cdv A0 outer s H vs Q E hr h=>?_)
 · obtain⟨a,da,u,q1,q2,ts,tt,rfl,_⟩:=h
   rfl
 obtain⟨a,da,u,q1,q2,ts,tt,rfl,ha,⟨tx,hx,hxt⟩,hG,htt,hno,q⟩:=h
 refine⟨_,(zF (zR (z9 (xA (x:="question") (M:=["paper","name"]) rfl (by rfl)) rfl (ZJ (P:=P) (w:=w) rfl rfl (zO yt ‹hr› rfl T.Ip T.Io T.Im .nil zM (zA (yG (xQ rfl) (by rfl) T.Ol Bt.dict (zA (zN (pv 0) rfl) zC)) (zA (pv 1) (zA zm zC))))) (fun _ _ _ _=>Qx (by exact (z6 (zV zf (pv 0) mq (yD _)))) (by dsimp only [iW] <;> rfl)) (fun _ _ _ _=>N5 (by exact (pv 0)) (by dsimp only [iW] <;> rfl))))),?_⟩
 obtain⟨rows,hpr,Bu⟩:=GX hxt
 refine⟨_,rfl,a,_,da,_,_,rfl,ha,T.dU,T.eG,rfl,q2,tx,rows,rfl,hx,hpr,fun dt hdt=>?_⟩
 rw [O8 (rw_nd Bu hG.1)]
 have s0:=zG hdt (.dK rows)
 refine⟨_,rfl,fun dk hdk=>?_⟩
 have s1:=zG hdk (.dK [])
 have s2:=s0.trans s1
 have avX:H dk=none:=same_none s0 hdk
 refine⟨dt,dk,rows,ts,tt,rfl,s1 _ _ zB,zJ Bu fun _ _ r=>r.kp (.of s2),hG,htt,hno,zB,fun d t H1 F hd hd1 hin hl6=>?_⟩
 have hdN:H d=none:=same_none s2 hd
 have sH:az H H1:=fun b o hb=>F _ _ (s2 _ _ hb) (Bc (zI hb avX))
 refine⟨d,_,rfl,.inl hd1,fun o en=>?_⟩
 have sF:az H (upd H1 d (.jG o (dO P w d (tW t)))):=fun b ob hb=>by rw [zL (zI hb hdN)];exact sH _ _ hb
 have hF:(upd H1 d (.jG o (dO P w d (tW t)))) d=some (.jG o (dO P w d (tW t))):=zB
 generalize upd H1 d (.jG o (dO P w d (tW t)))=G1 at sF hF
 have kl:(tW t).length=t.length:=List.length_map ..
 refine Ti (kvs:=tW t) en (zZ (m:=100) (by omega)) (fun i ys G'=>G1=G'∧∃ zs:List Str,ys=zs.map V.str∧∀ y∈zs,∃ p∈tt.2,p.2=some y) ⟨rfl,[],rfl,fun y hy=>by cases hy⟩ (fun i ys G' hw=>hw.1 ▸ hF) (fun i kv ys G' hki _ hw=>?_) (fun ys G' hw p hp=>?_)
 · obtain⟨rfl,zs,rfl,hz⟩:=hw
   obtain⟨qt,hqi,rfl⟩:=adx hki
   have hq:=hin qt (List.mem_of_getElem? hqi)
   obtain⟨y,x⟩:=qt
   cases y with
   | none=>exact⟨_,rfl,rfl,_,rfl,bD ⟨rfl,zs,rfl,hz⟩⟩
   | some y =>
     refine⟨_,rfl,rfl,_,rfl,cJ ⟨_,rfl,rfl,zs++[y],(by rw [List.map_append];rfl),fun z hz'=>?_⟩⟩
     rcases List.mem_append.mp hz' with h | h
     · exact hz z h
     · rw [List.mem_singleton.mp h];exact hq
 · obtain⟨rfl,zs,rfl,hz⟩:=hw
   exact q p zs _ (sF.trans (zG hp _)) zB hz
end
abbrev oRe (A:dq) (dx a d:Addr):HO:=.ins A.dm dx [("paper",.ref a),("spots",.ref d)]
def SpA (sh:List Sh) (G:Hp) (kvs:List (Key × V)) (Pd:Nat→Nat→Prop):Prop:=∀ (i j:Nat) t r,sh[i]? = some t→t.rows[j]? = some r→r.kd.isSome=true→Pd i j→∃ tq,dW kvs (.inr r.nm)=some (.ref tq)∧G tq=some (.tup [.int (i:Nat),.int (j:Nat)])
def UQ (sh:List Sh):Prop:=∀ (i j:Nat) t r (i' j':Nat) t' r',sh[i]? = some t→t.rows[j]? = some r→sh[i']? = some t'→t'.rows[j']? = some r'→r.nm=r'.nm→i=i'∧j=j'
def Xp (A:dq) (sh:List Sh) (H:Hp) (p a:Addr):Prop:=∃ dx d kvs,H p=some (oRe A dx a d)∧H d=some (.dK kvs)∧(SpA sh H kvs fun _ _=>True)∧∀ z,(dW kvs (.inr z)).isSome=true→∃ t∈sh,∃ r∈t.rows,r.nm=z∧r.kd.isSome=true
theorem SpA.same {sh:List Sh}{G G':Hp} (s:az G G') {kvs:List (Key × V)}{Pd:Nat→Nat→Prop} (h:SpA sh G kvs Pd):SpA sh G' kvs Pd:=fun i j t r ht hr hk hp=>let ⟨tq,e,h1⟩:=h i j t r ht hr hk hp; ⟨tq,e,s _ _ h1⟩
theorem Xp.same {A:dq}{sh:List Sh}{H H':Hp} (s:az H H') {p a:Addr} (h:Xp A sh H p a):Xp A sh H' p a:=by
 obtain⟨dx,d,kvs,h1,h2,h3,h4⟩:=h
 exact⟨dx,d,kvs,s _ _ h1,s _ _ h2,h3.same s,h4⟩
def Nj (i j:Nat):Nat→Nat→Prop:=fun i' j'=>i'<i∨i'=i∧j'<j
def ajk (A:dq):Sp:=fun vs H Q _=>∃ p dx a sh ts,vs=[.ref p,.ref a]∧H p=some (.ins A.dm dx [])∧O5 A H a sh ts∧GP sh ts∧UQ sh∧∀ H',Fr [p] H H'→Xp A sh H' p a→Q .non H'
section
variable {P:Program}{w:World}{K:W.Frag}{mg:Str→Option Value}{base:Heap}{A:dq}
theorem Ly (T:Txt K mg A):aN P w K mg base dR 1 A.lg A.lq ["self","paper"] (ajk A):=by
 refine T.Ci.ok fX (fun vs H Q E h=>?_) (fun cdv A0 outer s H vs Q E hr h=>?_)
 · obtain⟨p,dx,a,sh,ts,rfl,_⟩:=h
   rfl
 obtain⟨p,dx,a,sh,ts,rfl,hp,hP,hG,hq,k⟩:=h
 refine⟨_,(zD (yQ (pv 0) (pv 1) rfl)
     (zD (yQ (pv 0) zm rfl)
     (zF (yT PassesOwn.never rfl (rN rfl T.iG (zA (zN (pv 1) rfl) zC)) (j5 rfl (yB (zX (i:=2) fX.nd rfl ‹0›) (yB (zX (i:=3) fX.nd rfl ‹0›) xL))) (zF (yT PassesOwn.never rfl (rN rfl T.iG (zA (zN (pv 3) rfl) zC)) (j5 rfl (yB (zX (i:=4) fX.nd rfl ‹0›) (yB (zX (i:=5) fX.nd rfl ‹0›) xL))) (zF (yF (yZ (zY yH (by rfl) T.aD Bt.isinstance (zA (pv 5) (zA (xN rfl T.ZR) zC)))) (zF (Gz (xD hr) (zN (pv 0) rfl) (zN (pv 5) rfl) (yL (zA (pv 2) (zA (pv 4) zC))) rfl)) zU)))))))),?_⟩
 obtain⟨dp,u,qa,qb,xs,p1,p2,p3,p8⟩:=hP
 have lxs:=zK p3
 have h10:=hG.1
 refine⟨_,rfl,_,rfl,p,_,dx,_,rfl,hp,T.dw,T.iH,by decide,?_⟩
 intro d hd
 obtain⟨nd,hdN⟩:=lZ hd
 refine⟨_,rfl,p,_,dx,_,rfl,(by rw [zL (Ne.symm nd)];exact zB),T.dw,T.dM,(by show 1<1000;decide),?_⟩
 generalize hGG:upd (upd (upd H p (.ins A.dm dx (pF ‹"paper"› (V.ref a) []))) d (.dK [])) p (.ins A.dm dx (pF ‹"spots"› (V.ref d) (pF ‹"paper"› (V.ref a) [])))=H1
 have F1:Fr [p] H H1:=by rw [← hGG];exact (((Fr.of (az.refl _)).upd (List.mem_singleton.mpr rfl) _).new hd _).upd (List.mem_singleton.mpr rfl) _
 have hp1:H1 p=some (oRe A dx a d):=by rw [← hGG];exact zB
 have hd1:H1 d=some (.dK []):=by rw [← hGG,zL nd];exact zB
 have np:p≠d:=Ne.symm nd
 have nn:∀ {G:Hp}{b:Addr}{o:HO},Fr [d] H1 G→H b=some o→o≠.ins A.dm dx []→G b=some o:=fun {G b o} F hb ho=>F _ _ (F1 _ _ hb (Bc (za hb hp ho))) (Bc (zI hb hdN))
 have ni:∀ {C dy:Addr}{f:Str × V}{fs:List (Str × V)},HO.ins C dy (f::fs)≠.ins A.dm dx []:=fun z=>by injection z with z1 z2 z3;cases z3
 have nl:∀ {l:List V},HO.lst l≠.ins A.dm dx []:=fun z=>by cases z
 refine⟨_,rfl,a,_,dp,_,_,rfl,nn (Fr.of (az.refl _)) p1 ni,T.dU,T.cu,(by rw [Px (by symm)]),qa,rfl,⟨_,cB.of (nn (Fr.of (az.refl _)) p2 nl)⟩,?_⟩
 refine qM (xs:=xs) (fun i σ G=>∃ u1 u2 u3 u4 kvs,σ=[some (.ref p),some (.ref a),u1,u2,u3,u4]∧Fr [d] H1 G∧G d=some (.dK kvs)∧kvs.length≤10*i∧(∀ z,(dW kvs (.inr z)).isSome=true→∃ t∈sh,∃ r∈t.rows,r.nm=z∧r.kd.isSome=true)∧SpA sh G kvs (Nj i 0)) ⟨_,_,_,_,[],rfl,Fr.of (az.refl _),hd1,Nat.le_refl _,(fun z h=>by cases h),fun i' j' _ _ _ _ _ h=>by unfold Nj at h;omega⟩ (fun i σ G _ hw=>?_) (fun i x σ G hxi hw Tt hT=>?_) (fun σ G hw=>?_)
 · obtain⟨u1,u2,u3,u4,kvs,rfl,F,_⟩:=hw
   exact cB.of (nn F p2 nl)
 · obtain⟨u1,u2,u3,u4,kvs,rfl,F,hd',hk,hqd,hsp⟩:=hw
   obtain⟨t,ht,sa,Ng,r,y,rs,ys,rfl,a1,a2,a3,a4,a5⟩:=zW p3 hxi
   have hi:=(List.getElem?_eq_some_iff.mp ht).1
   have htg:=(hG.2.1 t (List.mem_of_getElem? ht)).1
   have sT:=zG hT (.tup [.int (i:Nat),.ref sa])
   have F2:=F.trans (Fr.of sT)
   refine⟨Tt,_,rfl,jJ.of zB,rfl,_,_,rfl,_,_,rfl,rfl,?_⟩
   have hd2:=sT _ _ hd'
   have Rp:=hsp.same sT
   generalize upd G Tt (.tup [.int (i:Nat),.ref sa])=G2 at F2 hd2 Rp
   dsimp only [bC,List.set_cons_succ,List.set_cons_zero]
   refine⟨_,rfl,sa,_,Ng,_,_,rfl,nn F2 a1 ni,T.dJ,T.gD,rfl,r,rfl,⟨_,cB.of (nn F2 a2 nl)⟩,?_⟩
   refine qM (xs:=rs) (fun j σ G=>∃ u3 u4 kvs,σ=[some (.ref p),some (.ref a),some (.int (i:Nat)),some (.ref sa),u3,u4]∧Fr [d] H1 G∧G d=some (.dK kvs)∧kvs.length≤10*i+j∧(∀ z,(dW kvs (.inr z)).isSome=true→∃ t∈sh,∃ r∈t.rows,r.nm=z∧r.kd.isSome=true)∧SpA sh G kvs (Nj i j)) ⟨_,_,kvs,rfl,F2,hd2,hk,hqd,Rp⟩ (fun j σ G _ hw=>?_) (fun j x σ G PB hw T2 hT2=>?_) (fun σ G hw=>?_)
   · obtain⟨u3,u4,kvs,rfl,F,_⟩:=hw
     exact cB.of (nn F a2 nl)
   · obtain⟨u3,u4,kvs,rfl,F,hd',hk,hqd,hsp⟩:=hw
     obtain⟨vU,Bu,ra,rdx,sv,rfl,hsy,hrr⟩:=zW a4 PB
     have hjl:=(List.getElem?_eq_some_iff.mp Bu).1
     have sT:=zG hT2 (.tup [.int (j:Nat),.ref ra])
     have F2:=F.trans (Fr.of sT)
     refine⟨T2,_,rfl,jJ.of zB,rfl,_,_,rfl,_,_,rfl,rfl,?_⟩
     have hd2:=sT _ _ hd'
     have Rp:=hsp.same sT
     generalize upd G T2 (.tup [.int (j:Nat),.ref ra])=G3 at F2 hd2 Rp
     dsimp only [bC,List.set_cons_succ,List.set_cons_zero]
     cases ho:vU.kd with
     | none =>
       rw [ho] at hrr
       obtain⟨b,b1⟩:=hrr
       refine⟨_,rfl,_,_,_,_,rfl,rfl,.old (T.JB G3 ra rdx _ (nn F2 b1 ni)),T.sS,_,rfl,bD ?_⟩
       refine⟨_,_,kvs,rfl,F2,hd2,by omega,hqd,fun i' j' t' r' ht' hr' hk' hb'=>Rp i' j' t' r' ht' hr' hk' ?_⟩
       unfold Nj at hb' ⊢
       by_cases c:i'=i∧j'=j
       · obtain⟨rfl,rfl⟩:=c
         rw [ht] at ht'
         cases ht'
         rw [Bu] at hr'
         cases hr'
         rw [ho] at hk'
         cases hk'
       · omega
     | some bk =>
       rw [ho] at hrr
       obtain⟨kd,b1,b2⟩:=hrr
       have hb1:=nn F2 b1 ni
       refine⟨_,rfl,_,_,_,_,rfl,rfl,.old (T.T6 G3 ra rdx _ hb1),T.yd,_,rfl,cJ ?_⟩
       refine⟨_,rfl,_,rfl,(by show 2≤sizeLine;decide),fun t2 Ui=>?_⟩
       have s5:=zG Ui (.tup [.int (i:Nat),.int (j:Nat)])
       have F3:=F2.trans (Fr.of s5)
       refine⟨_,rfl,p,_,dx,_,_,rfl,F3 _ _ hp1 (Bc np),T.dw,T.dM,(by rw [Px (by symm)]),_,rfl,ra,_,rdx,_,_,rfl,s5 _ _ hb1,T.uT,T.pU,rfl,d,_,rfl,J5.k (k:=.inr vU.nm) (s5 _ _ hd2) (zZ (m:=1000) (by omega)),?_⟩
       refine⟨_,_,_,rfl,F3.upd (List.mem_singleton.mpr rfl) _,zB,Nat.le_trans (xK ..) (by omega),(fun z hz=>?_),fun i' j' t' r' ht' hr' hk' hb'=>?_⟩
       · rw [lO] at hz
         split at hz
         · rename_i e
           exact⟨t,List.mem_of_getElem? ht,vU,List.mem_of_getElem? Bu,(Sum.inr.inj e).symm,by rw [ho];rfl⟩
         · exact hqd z hz
       have ady:∀ tq ts,(upd G3 t2 (.tup [.int (i:Nat),.int (j:Nat)])) tq=some (.tup ts)→(upd (upd G3 t2 (.tup [.int (i:Nat),.int (j:Nat)])) d (.dK (putK kvs (.inr vU.nm) (.ref t2)))) tq=some (.tup ts):=fun tq ts h=>by
         rw [zL (za h (s5 _ _ hd2) (by intro z;cases z))];exact h
       by_cases c:i'=i∧j'=j
       · obtain⟨rfl,rfl⟩:=c
         rw [ht] at ht'
         cases ht'
         rw [Bu] at hr'
         cases hr'
         exact⟨t2,by rw [lO,if_pos rfl],ady _ _ zB⟩
       · obtain⟨tq,e1,e2⟩:=Rp i' j' t' r' ht' hr' hk' (by unfold Nj at hb' ⊢;omega)
         have hzq:r'.nm≠vU.nm:=fun e=>c (hq i' j' t' r' i j t vU ht' hr' ht Bu e)
         exact⟨tq,by rw [lO,if_neg (fun h=>hzq (Sum.inr.inj h))];exact e1,ady _ _ (s5 _ _ e2)⟩
   · obtain⟨u3,u4,kvs,rfl,F,hd',hk,hqd,hsp⟩:=hw
     have lrs:=zK a4
     refine⟨_,_,_,_,kvs,rfl,F,hd',by omega,hqd,fun i' j' t' r' ht' hr' hk' hb'=>hsp i' j' t' r' ht' hr' hk' ?_⟩
     unfold Nj at hb' ⊢
     by_cases c:i'=i
     · subst c
       rw [ht] at ht'
       cases ht'
       have:=(List.getElem?_eq_some_iff.mp hr').1
       omega
     · omega
 · obtain⟨u1,u2,u3,u4,kvs,rfl,F,hd',hk,hqd,hsp⟩:=hw
   exact k G (fun b o hb hn=>F _ _ (F1 _ _ hb hn) (Bc (zI hb hdN))) ⟨dx,d,kvs,F _ _ hp1 (Bc np),hd',(fun i' j' t' r' ht' hr' hk' _=>hsp i' j' t' r' ht' hr' hk' (by have:=(List.getElem?_eq_some_iff.mp ht').1;unfold Nj;omega)),hqd⟩
end
def Hr (H:Hp) (x:V) (i j:Nat):Prop:=∃ t,x=.ref t∧H t=some (.tup [.int (i:Nat),.int (j:Nat)])
theorem Hr.same {H H':Hp} (s:az H H') {x:V}{i j:Nat} (h:Hr H x i j):Hr H' x i j:=by
 obtain⟨t,e,h1⟩:=h
 exact⟨t,e,s _ _ h1⟩
def Pl (sh:List Sh) (z:Str) (i j:Nat):Prop:=∃ t r,sh[i]? = some t∧t.rows[j]? = some r∧r.nm=z∧r.kd.isSome=true
def ag (sh:List Sh) (i:Nat):Bool:=match sh[i]? with
 | some t=>t.ea.isSome
 | none=>false
def rl (sh:List Sh) (i:Nat):Nat:=match sh[i]? with
 | some t=>t.rows.length
 | none=>0
theorem ajl {sh:List Sh}{i:Nat}{t:Sh} (h:sh[i]? = some t):ag sh i=t.ea.isSome:=by unfold ag;rw [h]
theorem adz {sh:List Sh}{i:Nat}{t:Sh} (h:sh[i]? = some t):rl sh i=t.rows.length:=by unfold rl;rw [h]
theorem Xp.at {A:dq}{sh:List Sh}{H:Hp}{p a:Addr} (h:Xp A sh H p a) {z:Str}{i j:Nat} (hp:Pl sh z i j):∃ dx d kvs tq,H p=some (oRe A dx a d)∧H d=some (.dK kvs)∧jt H d (.str z) (some (.ref tq))∧H tq=some (.tup [.int (i:Nat),.int (j:Nat)]):=by
 obtain⟨dx,d,kvs,h1,h2,h3,_⟩:=h
 obtain⟨t,r,ht,hr,rfl,hk⟩:=hp
 obtain⟨tq,e1,e2⟩:=h3 i j t r ht hr hk trivial
 have hget:=jt.k (k:=.inr r.nm) h2
 rw [e1] at hget
 exact⟨dx,d,kvs,tq,h1,h2,hget,e2⟩
theorem ajm {sh:List Sh}{z:Str}{i j:Nat} (h:Pl sh z i j):i<sh.length:=by obtain⟨t,r,ht,_⟩:=h;exact (List.getElem?_eq_some_iff.mp ht).1
def wi (sh:List Sh) (s k i:Nat):Prop:=i=s∧k<rl sh s
instance (sh:List Sh) (s k i:Nat):Decidable (wi sh s k i):=inferInstanceAs (Decidable (_∧_))
instance (s k i j:Nat):Decidable (Nj s k i j):=inferInstanceAs (Decidable (_∨_))
def rqP (sh:List Sh) (s k i j:Nat):Prop:=Nj s k i j∧(wi sh s k i∨ag sh i=false)
def rsP (sh:List Sh) (s k i j:Nat):Prop:=Nj s k i j∧¬ (wi sh s k i∧ag sh i=true)
instance (sh:List Sh) (s k i j:Nat):Decidable (rqP sh s k i j):=inferInstanceAs (Decidable (_∧_))
instance (sh:List Sh) (s k i j:Nat):Decidable (rsP sh s k i j):=inferInstanceAs (Decidable (_∧_))
theorem Uo (i j s k:Nat):HT.lexLt [((i:Nat):Int),((j:Nat):Int)] [((s:Nat):Int),((k:Nat):Int)]=decide (Nj s k i j):=by
 rw [HT.wL]
 by_cases e:i=s
 · subst e
   rw [if_pos rfl,HT.wL]
   by_cases e2:j=k
   · subst e2
     rw [if_pos rfl]
     exact (decide_eq_false (fun h=>by unfold Nj at h;omega)).symm
   · rw [if_neg (fun z=>e2 (by omega))]
     exact decide_eq_decide.mpr ⟨fun h=>.inr ⟨rfl,by omega⟩,fun h=>by unfold Nj at h;omega⟩
 · rw [if_neg (fun z=>e (by omega))]
   exact decide_eq_decide.mpr ⟨fun h=>.inl (by omega),fun h=>by unfold Nj at h;omega⟩
def av0 (A:dq):Sp:=fun vs H Q _=>∃ p a z sh ts i j,vs=[.ref p,.str z]∧Xp A sh H p a∧O5 A H a sh ts∧Pl sh z i j∧Q (.bl (ag sh i)) H
def av1 (A:dq):Sp:=fun vs H Q _=>∃ p a z sh ts i j x s k,vs=[.ref p,.str z,x]∧Xp A sh H p a∧O5 A H a sh ts∧Pl sh z i j∧Hr H x s k∧s<sh.length∧Q (.bl (decide (wi sh s k i))) H
def av2 (A:dq):Sp:=fun vs H Q _=>∃ p a z sh ts i j x s k,vs=[.ref p,.str z,x]∧Xp A sh H p a∧O5 A H a sh ts∧Pl sh z i j∧Hr H x s k∧s<sh.length∧Q (.bl (decide (rqP sh s k i j))) H
def av3 (A:dq):Sp:=fun vs H Q _=>∃ p a sh ts tt x s k,vs=[.ref p,.str tt.1,x]∧Xp A sh H p a∧O5 A H a sh ts∧GTs ts∧tt∈ts∧NoS ts tt∧(∀ pt∈tt.2,∀ y,pt.2=some y→∃ i j,Pl sh y i j∧rsP sh s k i j)∧Hr H x s k∧s<sh.length∧∀ H',az H H'→Q (.bl true) H'
section
variable {P:Program}{w:World}{K:W.Frag}{mg:Str→Option Value}{base:Heap}{A:dq}
theorem ajn (T:Txt K mg A):aN P w K mg base dR 1 A.ig A.ik ["self","question"] (av0 A):=by
 refine T.tY.ok sX (fun vs H Q E h=>?_) (fun cdv A0 outer s H vs Q E hr h=>?_)
 · obtain⟨p,a,z,sh,ts,i,j,rfl,_⟩:=h
   rfl
 obtain⟨p,a,z,sh,ts,i,j,rfl,hR,⟨dp,u,qa,qb,xs,p1,p2,p3,_⟩,hpl,k⟩:=h
 refine⟨_,(zF (zR (xM zf (zN (xX xR (zN (zN (pv 0) rfl) rfl) (xX Hk (m6 (xD hr) (zN (pv 0) rfl) (pv 1) (fun _ _=>rfl)) zH (fun _ _=>rfl)) (fun _ _=>rfl)) rfl) mq (yD _)))),?_⟩
 obtain⟨dx,d,kvs,tq,hp,hd,hget,htq⟩:=hR.at hpl
 obtain⟨t,ht⟩:∃ t,sh[i]? = some t:=⟨_,List.getElem?_eq_getElem (ajm hpl)⟩
 obtain⟨xv,hxv,sa,Ng,r,y,rs,ys,rfl,a1,_⟩:=lB p3 ht
 refine⟨_,rfl,p,_,dx,_,_,rfl,hp,T.dw,T.iH,rfl,a,_,dp,_,_,rfl,p1,T.dU,T.cu,(by rw [Px (by symm)]),_,rfl,p,_,dx,_,_,rfl,hp,T.dw,T.dM,(by rw [Px (by symm)]),_,rfl,d,_,rfl,hget,tq,_,_,_,rfl,rfl,jJ.of htq,xE (j:=0) rfl,qa,_,_,_,rfl,rfl,cB.of p2,xE hxv,sa,_,Ng,_,_,rfl,a1,T.dJ,T.gZ,rfl,?_⟩
 rw [ajl ht] at k
 cases Bf:t.ea with
 | none=>rw [Bf] at k;exact⟨rfl,k⟩
 | some z=>rw [Bf] at k;exact⟨rfl,k⟩
theorem ajo (T:Txt K mg A):aN P w K mg base dR 1 A.jb A.jc ["self","question","here"] (av1 A):=by
 refine T.vZ.ok uZ (fun vs H Q E h=>?_) (fun cdv A0 outer s H vs Q E hr h=>?_)
 · obtain⟨p,a,z,sh,ts,i,j,x,s',k',rfl,_⟩:=h
   rfl
 obtain⟨p,a,z,sh,ts,i,j,x,s',k',rfl,hR,⟨dp,u,qa,qb,xs,p1,p2,p3,_⟩,hpl,⟨t,rfl,ht⟩,hs,k⟩:=h
 refine⟨_,(zF (zR (uq (xM xP (xX Hk (m6 (xD hr) (zN (pv 0) rfl) (pv 1) (fun _ _=>rfl)) zH (fun _ _=>rfl)) (xX Hk (pv 2) zH (fun _ _=>rfl)) (yD _)) (uo (xM XN (xX Hk (pv 2) zH (fun _ _=>rfl)) (zY xB (by rfl) T.Ai PySem.boot_len (zA (zN (xX xR (zN (zN (pv 0) rfl) rfl) (xX Hk (pv 2) zH (fun _ _=>rfl)) (fun _ _=>rfl)) rfl) zC)) (yD _)))))),?_⟩
 obtain⟨dx,d,kvs,tq,hp,hd,hget,htq⟩:=hR.at hpl
 obtain⟨t',ht'⟩:∃ t,sh[s']? = some t:=⟨_,List.getElem?_eq_getElem hs⟩
 obtain⟨xv,hxv,sa,Ng,r,y,rs,ys,rfl,a1,a2,a3,a4,_⟩:=lB p3 ht'
 have hlr:=zK a4
 refine⟨_,rfl,p,_,dx,_,_,rfl,hp,T.dw,T.dM,(by rw [Px (by symm)]),_,rfl,d,_,rfl,hget,tq,_,_,_,rfl,rfl,jJ.of htq,xE (j:=0) rfl,_,rfl,t,_,_,_,rfl,rfl,jJ.of ht,xE (j:=0) rfl,rfl,_,rfl,jY (fun c=>?_) (fun c=>?_)⟩
 · have c:i=s':=by have:=V.int.inj (of_decide_eq_true c);omega
   refine⟨_,rfl,t,_,_,_,rfl,rfl,jJ.of ht,xE (j:=1) rfl,_,rfl,p,_,dx,_,_,rfl,hp,T.dw,T.iH,rfl,a,_,dp,_,_,rfl,p1,T.dU,T.cu,(by rw [Px (by symm)]),_,rfl,t,_,_,_,rfl,rfl,jJ.of ht,xE (j:=0) rfl,qa,_,_,_,rfl,rfl,cB.of p2,xE hxv,sa,_,Ng,_,_,rfl,a1,T.dJ,T.gD,rfl,r,_,rfl,.inl (cB.of a2),_,_,rfl,rfl,?_⟩
   show Q (.bl (decide (((k':Nat):Int)<((rs.length:Nat):Int)))) H
   rw [show decide (((k':Nat):Int)<((rs.length:Nat):Int))=decide (wi sh s' k' i) from decide_eq_decide.mpr ⟨fun h=>⟨c,by rw [adz ht'];omega⟩,fun h=>by have:=h.2;rw [adz ht'] at this;omega⟩]
   exact k
 · rw [show decide (wi sh s' k' i)=false from decide_eq_false fun h=>c (decide_eq_true (by rw [h.1]))] at k
   rw [Bool.not_eq_true] at c
   exact k
def JCA (T:Txt K mg A):jg P w K mg base dR 2 A.dm "comes_again":=⟨_,_,_,_,[],[],T.dw,T.uW,(ajn T).mono (by decide),T.tZ,.nil⟩
def JIW (T:Txt K mg A):jg P w K mg base dR 2 A.dm "is_within":=⟨_,_,_,_,[],[],T.dw,T.yg,(ajo T).mono (by decide),T.v5,.nil⟩
theorem ajp (T:Txt K mg A):aN P w K mg base dR 4 A.fu A.fB ["self","question","here"] (av2 A):=by
 refine T.oZ.ok iw (fun vs H Q E h=>?_) (fun cdv A0 outer s H vs Q E hr h=>?_)
 · obtain⟨p,a,z,sh,ts,i,j,x,s',k',rfl,_⟩:=h
   rfl
 obtain⟨p,a,z,sh,ts,i,j,x,s',k',rfl,hR,hP,hpl,hx,hs,k⟩:=h
 refine⟨_,(zD (zS (i:=3) iw.nd rfl ‹0› (ah5 (yY (CX:=dR) (k:=2) ‹hr› zM (pv 0) (zA (pv 1) (zA (pv 2) zC))) (uo (ad4 (yY (CX:=dR) (k:=2) ‹hr› zM (pv 0) (zA (pv 1) zC))))))
     (zF (zR (uq (xM (X7 (Nat.lt_of_succ_lt (xD hr))) (m6 (xD hr) (zN (pv 0) rfl) (pv 1) (fun _ _=>rfl)) (pv 2) (yD _)) (uo (pv 3)))))),?_⟩
 obtain⟨dx,d,kvs,tq,hp,hd,hget,htq⟩:=hR.at hpl
 obtain⟨t,rfl,ht⟩:=id hx
 have fin:∀ known:Bool,(known=true↔(wi sh s' k' i∨ag sh i=false))→(if decide (Nj s' k' i j)=true then Q (.bl known) H else Q (.bl (decide (Nj s' k' i j))) H):=fun known e=>by
   by_cases c:Nj s' k' i j
   · rw [if_pos (decide_eq_true c)]
     have:decide (rqP sh s' k' i j)=known:=by
       rw [Bool.eq_iff_iff,decide_eq_true_iff,e]
       exact⟨fun h=>h.2,fun h=>⟨c,h⟩⟩
     rw [this] at k;exact k
   · rw [if_neg (by rw [decide_eq_false c];decide)]
     have:decide (rqP sh s' k' i j)=decide (Nj s' k' i j):=decide_eq_decide.mpr ⟨fun h=>h.1,fun h=>absurd h c⟩
     rw [this] at k;exact k
 refine⟨_,rfl,p,_,dx,_,JIW T,rfl,hp,rfl,_,rfl,_,rfl,p,a,z,sh,ts,i,j,_,s',k',rfl,hR,hP,hpl,hx,hs,?_⟩
 by_cases cw:wi sh s' k' i
 · rw [decide_eq_true cw]
   refine⟨_,rfl,cJ ?_⟩
   refine⟨_,rfl,p,_,dx,_,_,rfl,hp,T.dw,T.dM,(by rw [Px (by symm)]),_,rfl,d,_,rfl,hget,_,rfl,tq,t,[((i:Nat):Int),((j:Nat):Int)],[((s':Nat):Int),((k':Nat):Int)],rfl,rfl,jJ.of htq,jJ.of ht,_,rfl,?_⟩
   rw [Uo]
   have:=fin true ⟨fun _=>.inl cw,fun _=>rfl⟩
   exact jY (fun c=>⟨_,rfl,by rw [if_pos c] at this;exact this⟩) (fun c=>by rw [if_neg c,(Bool.not_eq_true _).mp c] at this;exact this)
 · rw [decide_eq_false cw]
   refine⟨_,rfl,bD ?_⟩
   refine⟨_,rfl,p,_,dx,_,JCA T,rfl,hp,rfl,_,rfl,p,a,z,sh,ts,i,j,rfl,hR,hP,hpl,_,rfl,?_⟩
   refine⟨_,rfl,p,_,dx,_,_,rfl,hp,T.dw,T.dM,(by rw [Px (by symm)]),_,rfl,d,_,rfl,hget,_,rfl,tq,t,[((i:Nat):Int),((j:Nat):Int)],[((s':Nat):Int),((k':Nat):Int)],rfl,rfl,jJ.of htq,jJ.of ht,_,rfl,?_⟩
   rw [Uo]
   have:=fin (!ag sh i) ⟨fun h=>.inr (by cases ha:ag sh i with | false=>rfl | true=>rw [ha] at h;cases h),fun h=>h.elim (fun h=>absurd h cw) (fun h=>by rw [h];rfl)⟩
   exact jY (fun c=>⟨_,rfl,by rw [if_pos c] at this;exact this⟩) (fun c=>by rw [if_neg c,(Bool.not_eq_true _).mp c] at this;exact this)
def JRQ (T:Txt K mg A):jg P w K mg base dR 5 A.dm "reaches_question":=⟨_,_,_,_,[],[],T.dw,T.pG,(ajp T).mono (by decide),T.o4,.nil⟩
theorem ajq (T:Txt K mg A):aN P w K mg base dR 9 A.il A.ir ["self","name","here"] (av3 A):=by
 have JS:=Gq (P:=P) (w:=w) (base:=base) T
 refine T.t7.ok gM (fun vs H Q E h=>?_) (fun cdv A0 outer s H vs Q E hr h=>?_)
 · obtain⟨p,a,sh,ts,tt,x,s',k',rfl,_⟩:=h
   rfl
 obtain⟨p,a,sh,ts,tt,x,s',k',rfl,hR,hP,hGT,htt,hno,hpl,hx,hs,q⟩:=h
 refine⟨_,(zD (yT PassesOwn.never rfl (yO (zO JS ‹hr› rfl T.Iw T.Iv T.Iu .nil zM (zA (zN (pv 0) rfl) (zA (pv 1) zC)))) (zX (i:=3) gM.nd rfl ‹0›) (zD (zS (i:=4) gM.nd rfl ‹0› (uq (yY (CX:=dR) (k:=2) ‹hr› zM (pv 0) (zA (pv 3) (zA (pv 2) zC))) (uo (yY (CX:=dR) (k:=2) ‹hr› zM (pv 0) (zA (pv 3) zC)))))
     (zF (yF (PW.pt (acY (yZ (pv 4)) (Xz (um (zV (X7 (Nat.lt_of_succ_lt (xD hr))) (m6 (xD hr) (zN (pv 0) rfl) (pv 3) (fun _ _=>rfl)) (pv 2) (yD _)))))) (zF (zR Xy)) zU))))
     (zF (zR Xy))),?_⟩
 obtain⟨dx,d,kvs,hp,hd,_⟩:=id hR
 obtain⟨da,ua,qa,qb,xa,hpa,_,_,av4⟩:=id hP
 refine⟨_,rfl,p,_,dx,_,_,rfl,hp,T.dw,T.iH,rfl,_,rfl,a,da,ua,qa,qb,ts,tt,rfl,hpa,av4,hGT,htt,hno,fun l zs H1 s1 hl hzs=>⟨l,rfl,⟨_,cB.of hl⟩,?_⟩⟩
 have hR1:=hR.same s1
 have hP1:=hP.same s1
 have hx1:=hx.same s1
 obtain⟨t,rfl,ht⟩:=id hx1
 refine yR (xs:=zs.map V.str) (fun m σ G=>H1=G∧∃ u1 u2,σ=[some (.ref p),some (.str tt.1),some (.ref t),u1,u2]) ⟨rfl,_,_,rfl⟩ (fun m σ G _ hw=>hw.1 ▸ cB.of hl) (fun m y σ G hy hw=>?_) (fun σ G hw=>?_)
 · obtain⟨rfl,u1,u2,rfl⟩:=hw
   obtain⟨y,hym,rfl⟩:=zu hy
   obtain⟨pt,hpt,ept⟩:=hzs y (List.mem_of_getElem? hym)
   obtain⟨i,j,afg,hrs⟩:=hpl pt hpt y ept
   obtain⟨dx1,d1,aG7,tq,hp1,hd1,hget,htq⟩:=hR1.at afg
   dsimp only [bC,List.set_cons_succ,List.set_cons_zero]
   refine yU (fun σ' G=>H1=G∧σ'=[some (.ref p),some (.str tt.1),some (.ref t),some (.str y),some (.bl false)]) (fun σ' G hR=>?_) (fun _ Ni=>?_)
   · obtain⟨rfl,rfl⟩:=hR
     refine⟨_,rfl,_,rfl,bD ?_⟩
     refine⟨_,rfl,p,_,dx1,_,_,rfl,hp1,T.dw,T.dM,(by rw [Px (by symm)]),_,rfl,d1,_,rfl,hget,_,rfl,tq,t,[((i:Nat):Int),((j:Nat):Int)],[((s':Nat):Int),((k':Nat):Int)],rfl,rfl,jJ.of htq,jJ.of ht,_,rfl,?_⟩
     rw [Uo,decide_eq_true hrs.1]
     exact bD ⟨rfl,_,_,rfl⟩
   · refine⟨_,rfl,p,_,dx1,_,JIW T,rfl,hp1,rfl,_,rfl,_,rfl,p,a,y,sh,ts,i,j,_,s',k',rfl,hR1,hP1,afg,hx1,hs,?_⟩
     by_cases cw:wi sh s' k' i
     · rw [decide_eq_true cw]
       refine⟨_,rfl,cJ ?_⟩
       refine⟨_,rfl,p,_,dx1,_,JCA T,rfl,hp1,rfl,_,rfl,p,a,y,sh,ts,i,j,rfl,hR1,hP1,afg,?_⟩
       have hag:ag sh i=false:=by
         cases e:ag sh i with
         | false=>rfl
         | true=>exact absurd ⟨cw,e⟩ hrs.2
       rw [hag]
       exact Ni _ _ ⟨rfl,rfl⟩
     · rw [decide_eq_false cw]
       exact⟨_,rfl,bD (Ni _ _ ⟨rfl,rfl⟩)⟩
 · obtain⟨rfl,u1,u2,rfl⟩:=hw
   exact q _ s1
end
def afh (sh:List Sh) (ts:List rD) (s k:Nat) (z:Str):Prop:=(∃ i j,Pl sh z i j∧rqP sh s k i j)∨((¬ ∃ i j,Pl sh z i j)∧∃ tt,tt.1=z∧tt∈ts∧NoS ts tt∧∀ pt∈tt.2,∀ y,pt.2=some y→∃ i j,Pl sh y i j∧rsP sh s k i j)
def adC (t:Sh):List (Option Sy):=t.rows.map (·.sy)++t.ways.map (·.2)
def afi (sh:List Sh) (ts:List rD) (i:Nat) (t:Sh):Prop:=(∀ z,t.ea=some z→∃ i' j',Pl sh z i' j'∧rqP sh i 0 i' j')∧∀ j o,(adC t)[j]? = some o→GO o∧∀ a∈atO o,afh sh ts i j a.nm
def av5 (A:dq):Sp:=fun vs H Q _=>∃ p a sh ts x s k v o,vs=[.ref p,v,x]∧Xp A sh H p a∧O5 A H a sh ts∧GTs ts∧Hr H x s k∧s<sh.length∧SyO A H v o∧GO o∧(∀ b∈atO o,afh sh ts s k b.nm)∧∀ H',az H H'→Q .non H'
def ajr (A:dq):Sp:=fun vs H Q _=>∃ (p a:Addr) (sh:List Sh) (ts:List rD) (i:Nat) (t:Sh),vs=[.ref p,.int (i:Nat)]∧Xp A sh H p a∧O5 A H a sh ts∧GP sh ts∧GTs ts∧sh[i]? = some t∧afi sh ts i t∧∀ H',az H H'→Q .non H'
def ajs (A:dq):Sp:=fun vs H Q _=>∃ a sh ts,vs=[.ref a]∧O5 A H a sh ts∧GP sh ts∧UQ sh∧GTs ts∧(∀ i t,sh[i]? = some t→afi sh ts i t)∧∀ H',az H H'→Q .non H'
section
variable {P:Program}{w:World}{K:W.Frag}{mg:Str→Option Value}{base:Heap}{A:dq}
def JRU (T:Txt K mg A):jg P w K mg base dR 9 A.dm "reaches_sum":=⟨_,_,_,_,[],[],T.dw,T.uV,ajq T,T.t8,.nil⟩
theorem ajt (T:Txt K mg A):aN P w K mg base dR 11 A.gA A.gB ["self","saying","here"] (av5 A):=by
 have yr:=Eh (P:=P) (w:=w) (base:=base) T
 refine T.qx.ok fQ (fun vs H Q E h=>?_) (fun cdv A0 outer s H vs Q E hr h=>?_)
 · obtain⟨p,a,sh,ts,x,i,j,v,o,rfl,_⟩:=h
   rfl
 obtain⟨p,a,sh,ts,x,s',k',v,o,rfl,hR,hP,hGT,hx,hs,hS,hGO,ho,q1⟩:=h
 refine⟨_,(zF (yT PassesOwn.never rfl (yO (zO yr ‹hr› rfl T.IV T.IK T.Iz .nil zM (zA (pv 1) zC))) (zX (i:=3) fQ.nd rfl ‹0›) (zD (zS (i:=4) fQ.nd rfl ‹0› (xM (GJ (xD hr)) (zN (pv 3) rfl) (zN (pv 0) rfl) (by rfl)))
     (zF (yF (um (Zr (yZ (pv 4)) (yZ (yY (CX:=dR) (k:=5) ‹hr› zM (pv 0) (zA (zN (pv 3) rfl) (zA (pv 2) zC)))) (yZ (yY (CX:=dR) (k:=9) ‹hr› zM (pv 0) (zA (zN (pv 3) rfl) (zA (pv 2) zC)))))) (zF Dt) zU))))),?_⟩
 refine⟨_,rfl,v,o,rfl,hS,hGO,fun l xs H1 s1 hl hxs=>⟨l,rfl,⟨_,cB.of hl⟩,?_⟩⟩
 refine yR (xs:=xs) (fun n σ G=>az H1 G∧∃ u1 u2,σ=[some (.ref p),some v,some x,u1,u2]) ⟨az.refl _,_,_,rfl⟩ (fun n σ G _ hw=>cB.of (hw.1 _ _ hl)) (fun n y σ G hy hw=>?_) (fun σ G hw=>q1 _ (s1.trans hw.1))
 obtain⟨s2,u1,u2,rfl⟩:=hw
 obtain⟨t,hz,hat⟩:=zW hxs hy
 obtain⟨b,C,ds,fs,rfl,hb1,cl,na,hfl⟩:=(hat.same s2).fld T
 have s3:=s1.trans s2
 have hR1:=hR.same s3
 have hP1:=hP.same s3
 have hx1:=hx.same s3
 rcases ho t (List.mem_of_getElem? hz) with ⟨i,j,hpl,c⟩ | ⟨hno,tt,ett,htt,hns,hLp⟩
 · obtain⟨dx,d,kvs,tq,hp,hd,hget,htq⟩:=hR1.at hpl
   refine⟨_,rfl,b,C,ds,fs,_,rfl,hb1,cl,na,hfl,_,rfl,p,_,dx,_,_,rfl,hp,T.dw,T.dM,(by rw [Px (by symm)]),d,_,rfl,hget,?_⟩
   refine⟨_,rfl,_,rfl,cJ ?_⟩
   refine⟨_,rfl,p,_,dx,_,JRQ T,rfl,hp,rfl,_,rfl,b,C,ds,fs,_,rfl,hb1,cl,na,hfl,_,rfl,p,a,t.nm,sh,ts,i,j,x,s',k',rfl,hR1,hP1,hpl,hx1,hs,_,rfl,?_⟩
   rw [decide_eq_true c]
   exact bD ⟨s2,_,_,rfl⟩
 · obtain⟨dx,d,kvs,hp,hd,hsp,hqd⟩:=id hR1
   have hnone:dW kvs (.inr t.nm)=none:=by
     cases hv:dW kvs (.inr t.nm) with
     | none=>rfl
     | some v =>
       obtain⟨t',ht,r,hr',e1,e2⟩:=hqd t.nm (by rw [hv];rfl)
       obtain⟨i,hi⟩:=List.getElem?_of_mem ht
       obtain⟨j,hj⟩:=List.getElem?_of_mem hr'
       exact absurd ⟨i,j,t',r,hi,hj,e1,e2⟩ hno
   have hget:=jt.k (k:=.inr t.nm) hd
   rw [hnone] at hget
   refine⟨_,rfl,b,C,ds,fs,_,rfl,hb1,cl,na,hfl,_,rfl,p,_,dx,_,_,rfl,hp,T.dw,T.dM,(by rw [Px (by symm)]),d,_,rfl,hget,?_⟩
   refine⟨_,rfl,_,rfl,bD ?_⟩
   exact⟨_,rfl,p,_,dx,_,JRU T,rfl,hp,rfl,_,rfl,b,C,ds,fs,_,rfl,hb1,cl,na,hfl,_,rfl,p,a,sh,ts,tt,x,s',k',(by rw [ett];rfl),hR1,hP1,hGT,htt,hns,hLp,hx1,hs,fun H4 s4=>⟨_,rfl,bD ⟨s2.trans s4,_,_,rfl⟩⟩⟩
def JRS (T:Txt K mg A):jg P w K mg base dR 12 A.dm "look_at_saying":=⟨_,_,_,_,[],[],T.dw,T.qZ,(ajt T).mono (by decide),T.qy,.nil⟩
theorem afj (T:Txt K mg A):aN P w K mg base dR 13 A.gF A.gG ["self","place"] (ajr A):=by
 have vh:=Be (P:=P) (w:=w) (base:=base) T
 refine T.qT.ok dj (fun vs H Q E h=>?_) (fun cdv A0 outer s H vs Q E hr h=>?_)
 · obtain⟨p,a,sh,ts,i,t,rfl,_⟩:=h
   rfl
 obtain⟨p,a,sh,ts,i,t,rfl,hR,hP,hG,hGT,ht,hS,q1⟩:=h
 have hi:=(List.getElem?_eq_some_iff.mp ht).1
 refine⟨_,(zD (zS (i:=2) dj.nd rfl ‹0› (xX xR (zN (zN (pv 0) rfl) rfl) (pv 1) (fun _ _=>rfl)))
     (zD (yF (PW.pt (Bl (zV zf (zN (pv 2) rfl) mq (yD _)) (zc (um (yZ (yY (CX:=dR) (k:=5) ‹hr› zM (pv 0) (zA (zN (pv 2) rfl) (zA (yL (zA (pv 1) (zA zH zC))) zC)))))))) (zF Dt) zU)
     (zD (zS (i:=3) dj.nd rfl ‹0› (zP rH (z9 (xA (x:="row") (M:=["self","place","sheet","sayings","spot","saying"]) rfl (by rfl)) rfl (yO (zN (pv 2) rfl)) (fun _ _ _ _=>lU) (fun _ _ _ _=>(zO vh ‹hr› rfl T.Dy T.Dw T.Dv .nil zM (zA (pv 0) zC)))) (nQ (xJ (xA (x:="target") (M:=["self","place","sheet","sayings","spot",""]) rfl (by rfl)) (by rfl) (by symm)) rfl (yO (zN (pv 2) rfl)) (fun _ _ _ _=>lU) (fun _ _ _ _=>(pv 1)))))
     (zF (yT PassesOwn.never rfl (rN rfl T.iG (zA (pv 3) zC)) (j5 rfl (yB (zX (i:=4) dj.nd rfl ‹0›) (yB (zX (i:=5) dj.nd rfl ‹0›) xL))) (zF (yK (yY (CX:=dR) (k:=12) ‹hr› zM (pv 0) (zA (pv 5) (zA (yL (zA (pv 1) (zA (pv 4) zC))) zC)))))))))),?_⟩
 obtain⟨dx,d,kvs,hp,_⟩:=id hR
 obtain⟨dp,u,qa,qb,xs,p1,p2,p3,p8⟩:=id hP
 obtain⟨xv,hxv,sa,Ng,r,y,rs,ys,rfl,a1,a2,a3,a4,a5⟩:=lB p3 ht
 have htg:=hG.2.1 t (List.mem_of_getElem? ht)
 refine⟨_,rfl,p,_,dx,_,_,rfl,hp,T.dw,T.iH,rfl,a,_,dp,_,_,rfl,p1,T.dU,T.cu,(by rw [Px (by symm)]),_,rfl,qa,_,_,_,rfl,rfl,cB.of p2,xE hxv,?_⟩
 dsimp only [bC,List.set_cons_succ,List.set_cons_zero]
 refine yU (fun σ' G=>az H G∧∃ u1 u2 u3,σ'=[some (.ref p),some (.int (i:Nat)),some (.ref sa),u1,u2,u3]) (fun σ' G0 hR0=>?_) (fun _ hkE=>?_)
 rotate_left
 · refine⟨_,rfl,sa,_,Ng,_,_,rfl,a1,T.dJ,T.gZ,rfl,?_⟩
   cases Bf:t.ea with
   | none=>exact⟨rfl,_,rfl,bD (bD (hkE _ _ ⟨az.refl _,_,_,_,rfl⟩))⟩
   | some z =>
     obtain⟨i',j',hpl,c⟩:=hS.1 z Bf
     refine⟨rfl,_,rfl,cJ ?_⟩
     refine⟨_,rfl,p,_,dx,_,JRQ T,rfl,hp,rfl,_,rfl,sa,_,Ng,_,_,rfl,a1,T.dJ,T.gZ,rfl,_,rfl,(by show 2≤sizeLine;decide),fun t9 ht9=>?_⟩
     have s9:=zG ht9 (.tup [.int (i:Nat),.int 0])
     refine⟨p,a,z,sh,ts,i',j',_,i,0,(by rw [Bf];rfl),hR.same s9,hP.same s9,hpl,⟨t9,rfl,zB⟩,hi,_,rfl,?_⟩
     rw [decide_eq_true c]
     exact bD (hkE _ _ ⟨s9,_,_,_,rfl⟩)
 obtain⟨s00,u01,u02,u03,rfl⟩:=hR0
 have hR:=hR.same s00
 have hP:=hP.same s00
 have hp:=s00 _ _ hp
 have a1:=s00 _ _ a1
 have a2:=s00 _ _ a2
 have a3:=s00 _ _ a3
 have a4:=zJ a4 fun _ _ r=>ym.same s00 r
 have a5:=zJ a5 fun _ _ r=>WyR.same s00 r
 have q1:∀ H',az G0 H'→Q .non H':=fun H' s=>q1 H' (s00.trans s)
 clear p1 p2 p3 p8
 refine⟨_,rfl,sa,_,Ng,_,_,rfl,a1,T.dJ,T.gD,rfl,r,rfl,⟨_,cB.of a2⟩,?_⟩
 refine wO (xs:=rs) (zZ (m:=100) (by rw [zK a4];omega)) (fun j zs G=>G0=G∧Paired (SyO A G0) zs ((t.rows.take j).map (·.sy))) ⟨rfl,.nil⟩ (fun j zs G hw=>hw.1 ▸ cB.of a2) (fun j x zs G PB _ hw=>?_) (fun zs G hw l1 hl1=>?_)
 · obtain⟨rfl,hz⟩:=hw
   obtain⟨vU,Bu,hrr⟩:=zW a4 PB
   refine nu ⟨_,rfl,x,vU,rfl,hrr,fun v hv=>⟨rfl,?_⟩⟩
   rw [yJ Bu,List.map_append]
   exact yE hz (.cons hv .nil)
 obtain⟨rfl,hz⟩:=hw
 rw [zK a4,List.take_length] at hz
 have s1:=zG hl1 (.lst zs)
 have h1:(upd G0 l1 (.lst zs)) l1=some (.lst zs):=zB
 generalize upd G0 l1 (.lst zs)=H1 at s1 h1
 refine⟨_,rfl,sa,_,Ng,_,_,rfl,s1 _ _ a1,T.dJ,T.qD,rfl,y,rfl,⟨_,cB.of (s1 _ _ a3)⟩,?_⟩
 refine nR (xs:=ys) (zZ (m:=100) (by rw [zK a5];omega)) (fun j Xh G=>H1=G∧Paired (SyO A G0) Xh ((t.ways.take j).map (·.2))) ⟨rfl,.nil⟩ (fun j Xh G hw=>hw.1 ▸ cB.of (s1 _ _ a3)) (fun j x Xh G PB _ hw=>?_) (fun Xh G hw l2 hl2=>?_)
 · obtain⟨rfl,hz'⟩:=hw
   obtain⟨yw,hyw,ta,v,rfl,hta,hv⟩:=zW a5 PB
   refine⟨ta,_,_,rfl,jJ.of (s1 _ _ hta),nu ⟨_,rfl,rfl,?_⟩⟩
   rw [yJ hyw,List.map_append]
   exact yE hz' (.cons hv .nil)
 obtain⟨rfl,hz'⟩:=hw
 rw [zK a5,List.take_length] at hz'
 have lz:zs.length≤10:=by rw [zK hz,List.length_map];exact htg.1
 have lz':Xh.length≤10:=by rw [zK hz',List.length_map];exact htg.2
 have s2:=zG hl2 (.lst Xh)
 refine⟨l1,l2,_,_,rfl,rfl,s2 _ _ h1,zB,(by rw [sizeLine_eq];omega),fun l3 hl3=>?_⟩
 have s3:=s1.trans (s2.trans (zG hl3 (.lst (zs++Xh))))
 have h3:(upd (upd H1 l2 (.lst Xh)) l3 (.lst (zs++Xh))) l3=some (.lst (zs++Xh)):=zB
 dsimp only [bC,List.set_cons_succ,List.set_cons_zero]
 generalize upd (upd H1 l2 (.lst Xh)) l3 (.lst (zs++Xh))=H2 at s3 h3
 have hall:=yE hz hz'
 refine⟨_,rfl,l3,rfl,⟨_,cB.of h3⟩,?_⟩
 refine qM (xs:=zs++Xh) (fun j σ G=>az H2 G∧∃ u1 u2,σ=[some (.ref p),some (.int (i:Nat)),some (.ref sa),some (.ref l3),u1,u2]) ⟨az.refl _,_,_,rfl⟩ (fun j σ G _ hw=>cB.of (hw.1 _ _ h3)) (fun j x σ G PB hw Tt hT=>?_) (fun σ G hw=>q1 _ (s3.trans hw.1))
 obtain⟨s4,u1,u2,rfl⟩:=hw
 obtain⟨o,ho,hSy⟩:=zW hall PB
 have ho:(adC t)[j]? = some o:=ho
 have sT:=zG hT (.tup [.int (j:Nat),x])
 refine⟨Tt,_,rfl,jJ.of zB,rfl,_,_,rfl,_,_,rfl,rfl,?_⟩
 generalize upd G Tt (.tup [.int (j:Nat),x])=G1 at sT
 dsimp only [bC,List.set_cons_succ,List.set_cons_zero]
 have s5:=s3.trans (s4.trans sT)
 refine⟨_,rfl,p,_,dx,_,JRS T,rfl,s5 _ _ hp,rfl,_,rfl,_,rfl,_,rfl,(by show 2≤sizeLine;decide),fun t2 Ui=>?_⟩
 have s6:=zG Ui (.tup [.int (i:Nat),.int (j:Nat)])
 exact⟨p,a,sh,ts,_,i,j,x,o,rfl,hR.same (s5.trans s6),hP.same (s5.trans s6),hGT,⟨t2,rfl,zB⟩,hi,hSy.same (s5.trans s6),(hS.2 j o ho).1,(hS.2 j o ho).2,fun G0' s7=>⟨s4.trans (sT.trans (s6.trans s7)),_,_,rfl⟩⟩
def av6 (T:Txt K mg A):jg P w K mg base dR 13 A.dm "look_at_sheet":=⟨_,_,_,_,[],[],T.dw,T.sV,afj T,T.qU,.nil⟩
theorem Bg (T:Txt K mg A):aN P w K mg base dR 14 A.iM A.lu ["paper"] (ajs A):=by
 have CZ:=Ly (P:=P) (w:=w) (base:=base) T
 refine T.Ck.ok jV (fun vs H Q E h=>?_) (fun cdv A0 outer s H vs Q E hr h=>?_)
 · obtain⟨a,sh,ts,rfl,_⟩:=h
   rfl
 obtain⟨a,sh,ts,rfl,hP,hG,hu,hGT,hS,q1⟩:=h
 refine⟨_,(zD (zS (i:=1) jV.nd rfl ‹0› (yP T.Z7 CZ ‹hr› rfl T.ab8 T.Cj .nil zM (zA (pv 0) zC)))
     (zF (yT PassesOwn.never rfl (vC rfl T.GQ (zA (zY xB (by rfl) T.Ai PySem.boot_len (zA (zN (pv 0) rfl) zC)) zC)) (zX (i:=2) jV.nd rfl ‹0›) (zF (yK (yY (CX:=dR) (k:=13) ‹hr› zM (pv 1) (zA (pv 2) zC))))))),?_⟩
 refine⟨_,rfl,fun p dx np nd ne=>?_⟩
 have sm:=yW np nd (.ins A.dm dx [])
 refine⟨p,dx,a,sh,ts,rfl,zB,hP.same sm,hG,hu,fun H1 F hR=>⟨rfl,?_⟩⟩
 have s1:az H H1:=fun b o hb=>F _ _ (sm _ _ hb) (Bc (zI hb np))
 have hP1:=hP.same s1
 obtain⟨dp,u,qa,qb,xs,p1,p2,p3,_⟩:=id hP1
 have lxs:=zK p3
 have h10:=hG.1
 dsimp only [bC,List.set_cons_succ,List.set_cons_zero]
 refine⟨_,rfl,a,_,dp,_,_,rfl,p1,T.dU,T.cu,(by rw [Px (by symm)]),qa,_,rfl,.inl (cB.of p2),_,rfl,(by omega),(by omega),?_⟩
 rw [show ((xs.length:Nat):Int).toNat=xs.length from rfl]
 refine rK (fun i σ G=>az H1 G∧∃ u1,σ=[some (.ref a),some (.ref p),u1]) ⟨az.refl _,_,rfl⟩ (fun i σ G hi hw=>?_) (fun σ G hw=>q1 _ (s1.trans hw.1))
 obtain⟨s2,u1,rfl⟩:=hw
 have hR2:=hR.same s2
 obtain⟨dx',d,kvs,hp,_⟩:=id hR2
 obtain⟨t,ht⟩:∃ t,sh[i]? = some t:=⟨_,List.getElem?_eq_getElem (by omega)⟩
 exact⟨_,rfl,p,_,dx',_,av6 T,rfl,hp,rfl,_,rfl,p,a,sh,ts,i,t,(by rw [Int.zero_add];rfl),hR2,hP1.same s2,hG,hGT,ht,hS i t ht,fun H' s3=>⟨s2.trans s3,_,rfl⟩⟩
end
def aju (sh:List Sh) (ts:List rD):List Str:=yo sh++ts.map (·.1)
def flA (sh:List Sh) (ts:List rD):List Flt:=aaD (Vu (allR sh)) (ts.map (·.1)) sh ts
def Pap (sh:List Sh) (ts:List rD):Prop:=GP sh ts∧(aju sh ts).Nodup∧GA sh ts∧Uk ts.length ts=[]∧UQ sh∧GTs ts∧(flA sh ts=[]→∀ i t,sh[i]? = some t→afi sh ts i t)
def av8 (A:dq):Sp:=fun vs H Q E=>∃ a sh ts,vs=[.ref a]∧O5 A H a sh ts∧Pap sh ts∧(flA sh ts=[]→∀ H',az H H'→Q .non H')∧∀ g r,flA sh ts=g::r→XR A H E g
def acI (A:dq):Sp:=fun vs H Q _=>∃ e dx b,vs=[.ref e]∧H e=some (J6 e (cF A b) dx)∧Q (.bl true) H
def acJ (A:dq):Sp:=fun vs H Q _=>∃ a sh ts,vs=[.ref a]∧O5 A H a sh ts∧Pap sh ts∧∀ x H',az H H'→O6 H' x (flA sh ts).head?→Q x H'
section
variable {P:Program}{w:World}{K:W.Frag}{mg:Str→Option Value}{base:Heap}{A:dq}
theorem Up (T:Txt K mg A):aN P w K mg base (jf P w) 15 A.vL A.By ["paper"] (av8 A):=by
 have Dc:=aax (P:=P) (w:=w) (base:=base) T
 have Gr:=CW (P:=P) (w:=w) (base:=base) T
 have Gs:=acB (P:=P) (w:=w) (base:=base) T
 have Dd:=Bg (P:=P) (w:=w) (base:=base) T
 refine T.WR.okX Ua (fun vs H Q E h=>?_) (fun cdv A0 outer s H vs Q E hr h=>?_)
 · obtain⟨a,sh,ts,rfl,_⟩:=h
   rfl
 obtain⟨a,sh,ts,rfl,hP,⟨hG,hnd,hA,hit,hu,hGT,hS⟩,q1,q2⟩:=h
 refine⟨_,(zD (yK (zO Dc ‹hr› rfl T.Cg T.Ce T.Cd .nil zM (zA (pv 0) zC)))
     (zD (yK (zO Gr ‹hr› rfl T.Fp T.Fo T.Fl .nil aix (zA (pv 0) zC)))
     (zD (yK (zO Gs ‹hr› rfl T.Fw T.Fv T.Ft .nil zM (zA (pv 0) zC)))
     (zF (yK (zO Dd ‹hr› rfl T.Cq T.Cp T.Cm .nil zM (zA (pv 0) zC))))))),?_⟩
 refine⟨_,rfl,a,sh,ts,aju sh ts,rfl,hP,hG,rfl,hnd,fun H1 s1=>?_⟩
 refine⟨_,rfl,a,sh,ts,_,_,rfl,hP.same s1,hG,hA,rfl,rfl,fun h0 H2 s2=>?_,fun g r hf=>(q2 g r hf).same s1⟩
 have s12:=s1.trans s2
 refine⟨_,rfl,a,sh,ts,rfl,hP.same s12,hG,hA.2.1,hit,fun H3 s3=>?_⟩
 have Vw:=s12.trans s3
 exact⟨_,rfl,a,sh,ts,rfl,hP.same Vw,hG,hu,hGT,hS h0,fun H4 s4=>q1 h0 H4 (Vw.trans s4)⟩
theorem aaM (T:Txt K mg A):aN P w K mg base dR 1 A.pK A.uD ["_law_e"] (acI A):=by
 refine T.QR.ok sY (fun vs H Q E h=>?_) (fun cdv A0 outer s H vs Q E hr h=>?_)
 · obtain⟨e,dx,b,rfl,_⟩:=h
   rfl
 obtain⟨e,dx,b,rfl,he,q⟩:=h
 refine⟨_,(zD (zS (i:=1) sY.nd rfl ‹0› (zP xO (zP xO (yG nF (by rfl) T.M6 Bt.int (zA (zY yH (by rfl) T.aD Bt.isinstance (zA (pv 0) (zA (xN rfl T.Vp) zC))) zC)) (yG nF (by rfl) T.M6 Bt.int (zA (zY yH (by rfl) T.aD Bt.isinstance (zA (pv 0) (zA (xN rfl T.M8) zC))) zC))) (yG nF (by rfl) T.M6 Bt.int (zA (zY yH (by rfl) T.aD Bt.isinstance (zA (pv 0) (zA (xN rfl T.DN) zC))) zC))))
     (zD (zS (i:=1) sY.nd rfl ‹0› (zP xO (zP xO (zP xO (pv 1) (yG nF (by rfl) T.M6 Bt.int (zA (zY yH (by rfl) T.aD Bt.isinstance (zA (pv 0) (zA (xN rfl T.Vn) zC))) zC))) (yG nF (by rfl) T.M6 Bt.int (zA (zY yH (by rfl) T.aD Bt.isinstance (zA (pv 0) (zA (xN rfl T.aeF) zC))) zC))) (yG nF (by rfl) T.M6 Bt.int (zA (zY yH (by rfl) T.aD Bt.isinstance (zA (pv 0) (zA (xN rfl T.Aj) zC))) zC))))
     (zF (zR (uq (xM xP (pv 1) zH (yD _)) (uq (zY yH (by rfl) T.aD Bt.isinstance (zA (pv 0) (zA (xN rfl T.T4) zC))) (uo (zY yH (by rfl) T.aD Bt.isinstance (zA (pv 0) (zA (Gv (v:=.ty "ValueError") rfl T.Oj Bt.ValueError rfl) zC)))))))))),?_⟩
 cases b with
 | false =>
   have he:H e=some (J6 e A.aM dx):=he
   refine⟨_,rfl,_,_,_,_,rfl,rfl,.m7 he T.gC,T.qW,.inr ⟨_,rfl,?_⟩⟩
   refine⟨_,rfl,_,_,_,_,rfl,rfl,.m7 he T.gC,T.o6,.inr ⟨_,rfl,_,_,rfl,rfl,?_⟩⟩
   refine⟨_,rfl,_,_,_,_,rfl,rfl,.m7 he T.gC,T.uR,.inr ⟨_,rfl,_,_,rfl,rfl,?_⟩⟩
   refine⟨_,rfl,_,rfl,_,_,_,_,rfl,rfl,.m7 he T.gC,T.Cw,.inr ⟨_,rfl,_,_,rfl,rfl,?_⟩⟩
   refine⟨_,rfl,_,_,_,_,rfl,rfl,.m7 he T.gC,T.FN,.inr ⟨_,rfl,_,_,rfl,rfl,?_⟩⟩
   refine⟨_,rfl,_,_,_,_,rfl,rfl,.m7 he T.gC,T.ud,.inr ⟨_,rfl,_,_,rfl,rfl,?_⟩⟩
   refine⟨_,rfl,rfl,_,rfl,cJ ?_⟩
   refine⟨_,rfl,_,_,_,_,rfl,rfl,.m7 he T.gC,T.wj,_,rfl,cJ ?_⟩
   exact⟨_,rfl,_,_,_,_,rfl,rfl,.m7 he T.gC,T.sU,q⟩
 | true =>
   have he:H e=some (J6 e A.aB dx):=he
   refine⟨_,rfl,_,_,_,_,rfl,rfl,.m7 he T.dI,T.o7,.inr ⟨_,rfl,?_⟩⟩
   refine⟨_,rfl,_,_,_,_,rfl,rfl,.m7 he T.dI,T.lX,.inr ⟨_,rfl,_,_,rfl,rfl,?_⟩⟩
   refine⟨_,rfl,_,_,_,_,rfl,rfl,.m7 he T.dI,T.jT,.inr ⟨_,rfl,_,_,rfl,rfl,?_⟩⟩
   refine⟨_,rfl,_,rfl,_,_,_,_,rfl,rfl,.m7 he T.dI,T.yc,.inr ⟨_,rfl,_,_,rfl,rfl,?_⟩⟩
   refine⟨_,rfl,_,_,_,_,rfl,rfl,.m7 he T.dI,T.Am,.inr ⟨_,rfl,_,_,rfl,rfl,?_⟩⟩
   refine⟨_,rfl,_,_,_,_,rfl,rfl,.m7 he T.dI,T.qX,.inr ⟨_,rfl,_,_,rfl,rfl,?_⟩⟩
   refine⟨_,rfl,rfl,_,rfl,cJ ?_⟩
   refine⟨_,rfl,_,_,_,_,rfl,rfl,.m7 he T.dI,T.ue,_,rfl,cJ ?_⟩
   exact⟨_,rfl,_,_,_,_,rfl,rfl,.m7 he T.dI,T.qz,q⟩
theorem aaN (T:Txt K mg A):aN P w K mg base dR 16 A.pL A.uE ["_law_paper"] (acJ A):=by
 have Xi:=Up (P:=P) (w:=w) (base:=base) T
 have Ry:=aaM (P:=P) (w:=w) (base:=base) T
 refine T.QW.ok iT (fun vs H Q E h=>?_) (fun cdv A0 outer s H vs Q E hr h=>?_)
 · obtain⟨a,sh,ts,rfl,_⟩:=h
   rfl
 obtain⟨a,sh,ts,rfl,hP,av9,q⟩:=h
 refine⟨_,(zD (zS (i:=1) iT.nd rfl ‹0› mq)
     (zD (zS (i:=2) iT.nd rfl ‹0› mq)
     (zD (YG (j:=3) iT.nd rfl rfl rfl rfl rfl (abS (abR (i:=2) iT.nd rfl ‹0› (YB Xi ‹hr› rfl T.WX T.WW T.WT .nil (zA (pv 0) zC)))) rfl T.xx (fun _=>(zF (zS (i:=1) iT.nd rfl ‹0› (pv 3)))))
     (zD (yF (zV XQ (pv 1) mq (yD _)) (zF (zR (yL (zA zQ (zA (yG J8 (by rfl) T.Q9 Bt.str (zA (pv 2) zC)) zC))))) zU)
     (zD (yF (um (yZ (zO Ry ‹hr› rfl T.QV T.QT T.QS .nil zM (zA (pv 1) zC)))) (zF (zR (yL (zA zQ (zA zQ zC))))) zU)
     (zD (yF (yZ (zY yH (by rfl) T.aD Bt.isinstance (zA (pv 1) (zA (xN rfl T.Vp) zC)))) (zF (zR (yL (zA zQ (zA (Ac (pv 1) rfl) zC))))) zU)
     (zD (yF (yZ (zY yH (by rfl) T.aD Bt.isinstance (zA (pv 1) (zA (xN rfl T.M8) zC)))) (zF (zR (yL (zA zQ (zA (Ac (pv 1) rfl) zC))))) zU)
     (zD (yF (yZ (zY yH (by rfl) T.aD Bt.isinstance (zA (pv 1) (zA (xN rfl T.DN) zC)))) (zF (zR (yL (zA zQ (zA (Ac (pv 1) rfl) zC))))) zU)
     (zD (yF (yZ (zY yH (by rfl) T.aD Bt.isinstance (zA (pv 1) (zA (xN rfl T.Vn) zC)))) (zF (zR (yL (zA zQ (zA (Ac (pv 1) rfl) zC))))) zU)
     (zD (yF (yZ (zY yH (by rfl) T.aD Bt.isinstance (zA (pv 1) (zA (xN rfl T.Aj) zC)))) (zF (zR (yL (zA zQ (zA (Ac (pv 1) rfl) zC))))) zU)
     (zF (zR (yL (zA zQ (zA zQ zC))))))))))))))),?_⟩
 refine⟨_,rfl,a,sh,ts,rfl,hP,av9,fun h0 H1 s1=>?_,fun g r h0 dx H1 s1 h1=>?_⟩
 · rw [h0] at q
   refine⟨_,rfl,rfl,_,rfl,cJ ?_⟩
   exact⟨_,rfl,rfl,(by show 2≤sizeLine;decide),fun t ht=>q _ _ (s1.trans (zG ht _)) ⟨t,rfl,zB⟩⟩
 rw [h0] at q
 obtain⟨b,z⟩:=g
 cases b with
 | false =>
   refine⟨A.aM,rfl,T.wg,fun ea Bf=>?_⟩
   have se:=zG Bf (Qp ea A.aM (some dx))
   have he:(upd H1 ea (Qp ea A.aM (some dx))) ea=some (J6 ea A.aM dx):=zB
   have hx:=se _ _ h1
   generalize upd H1 ea (Qp ea A.aM (some dx))=H2 at se he hx
   refine⟨_,rfl,?_⟩
   refine⟨_,rfl,rfl,_,rfl,bD ?_⟩
   refine⟨_,rfl,ea,dx,false,rfl,he,_,rfl,bD ?_⟩
   refine⟨_,rfl,_,_,_,_,rfl,rfl,.m7 he T.gC,T.qW,_,rfl,bD ?_⟩
   refine⟨_,rfl,_,_,_,_,rfl,rfl,.m7 he T.gC,T.o6,_,rfl,cJ ?_⟩
   exact⟨_,rfl,ea,A.aM,dx,_,_,rfl,he,hx,T.FJ,(by rw [List.lookup_cons,beq_self_eq_true]),(by show 2≤sizeLine;decide),fun t ht=>q _ _ (s1.trans (se.trans (zG ht _))) ⟨t,rfl,zB⟩⟩
 | true =>
   refine⟨A.aB,rfl,T.uc,fun ea Bf=>?_⟩
   have se:=zG Bf (Qp ea A.aB (some dx))
   have he:(upd H1 ea (Qp ea A.aB (some dx))) ea=some (J6 ea A.aB dx):=zB
   have hx:=se _ _ h1
   generalize upd H1 ea (Qp ea A.aB (some dx))=H2 at se he hx
   refine⟨_,rfl,?_⟩
   refine⟨_,rfl,rfl,_,rfl,bD ?_⟩
   refine⟨_,rfl,ea,dx,true,rfl,he,_,rfl,bD ?_⟩
   refine⟨_,rfl,_,_,_,_,rfl,rfl,.m7 he T.dI,T.o7,_,rfl,bD ?_⟩
   refine⟨_,rfl,_,_,_,_,rfl,rfl,.m7 he T.dI,T.lX,_,rfl,bD ?_⟩
   refine⟨_,rfl,_,_,_,_,rfl,rfl,.m7 he T.dI,T.jT,_,rfl,cJ ?_⟩
   exact⟨_,rfl,ea,A.aB,dx,_,_,rfl,he,hx,T.Al,(by rw [List.lookup_cons,beq_self_eq_true]),(by show 2≤sizeLine;decide),fun t ht=>q _ _ (s1.trans (se.trans (zG ht _))) ⟨t,rfl,zB⟩⟩
end
theorem xW {H:Hp}{a dx:Addr} (o:HO) (nx:H a=none) (nd:H dx=none):az H (upd (upd H dx (.own a)) a o):=fun b u e=>by
 rw [zL (zI e nx),zL (zI e nd)];exact e
theorem p40:(10:Int) ^ 40<2 ^ 200:=by symm
def Xj:Str:=‹"red"›
def afk:Str:=‹"green"›
def zzz:Str:=‹"zz"›
def Uq (ns:List Int):Int:=aq ns 1 % (2*10 ^ 18) - 10 ^ 18
def PJ (ns:List Int):List Str:=[Xj,yp,fj (aq ns 0) 0]
def kB (ns:List Int):List Kx:=[.yn,.wh false (Uq ns) (Uq ns+9),.wh true (Uq ns) (Uq ns),.pk (PJ ns),.nm 4]
def GZ (ns:List Int):Nat:=(aq ns 2 % 5).toNat
def kL (ns:List Int):List Kx:=(kB ns).drop (GZ ns)++(kB ns).take (GZ ns)
theorem aaO (ns:List Int):GZ ns<5:=by
 unfold GZ
 have:=Int.emod_nonneg (aq ns 2) (show (5:Int)≠0 by decide)
 have:=Int.emod_lt_of_pos (aq ns 2) (show (0:Int)<5 by decide)
 omega
def KR (A:dq) (H:Hp) (x:V) (k:Kx):Prop:=∃ a,x=.ref a∧M9 A H a k
theorem KR.same {A:dq}{H H':Hp} (s:az H H') {x:V}{k:Kx} (h:KR A H x k):KR A H' x k:=by obtain⟨a,e,h⟩:=h;exact⟨a,e,h.same s⟩
def Scr (K:W.Frag) (H:Hp) (a:Addr) (ns:List Int):Prop:=cB K H a (ns.map V.int)∧ns.length≤1000∧Ns ns
def awa (A:dq) (K:W.Frag):Sp:=fun vs H Q _=>∃ a ns,vs=[.ref a]∧Scr K H a ns∧(∀ H',az H H'→Scr K H' a ns)∧∀ l xs H',az H H'→H' l=some (.lst xs)→Paired (KR A H') xs (kL ns)→Q (.ref l) H'
theorem Xk {l:List V}{j:Nat} (h:j≤l.length):Qd l none (some (j:Int))=l.take j:=by
 unfold Qd
 have e1:HT.wz l.length 0 none=0:=rfl
 have e2:HT.wz l.length l.length (some (j:Int))=j:=by
   show (if (j:Int)<0 then ((j:Int)+l.length).toNat else min (j:Int).toNat l.length)=_
   rw [if_neg (by omega)];omega
 rw [e1,e2]
 rfl
theorem Ej {α β:Type}{R:α→β→Prop}:∀ {as:List α}{bs:List β} (i:Nat),Paired R as bs→Paired R (as.take i) (bs.take i)
 | _,_,0,_=>.nil
 | _,_,_+1,.nil=>.nil
 | _,_,i+1,.cons r t=>.cons r (Ej i t)
def iz (c:Int):Option Nat:=if c % 8=5 then some 10 else if c % 8=6 then none else if c % 8=7 then some (12+(c / 8 % 3).toNat) else some (c % 8).toNat
def lN (ns:List Int):Option Nat→Str
 | some k=>fj (aq ns 0) k
 | none=>zzz
def awb (K:W.Frag):Sp:=fun vs H Q _=>∃ (a:Addr) (ns:List Int) (c:Int),vs=[.ref a,.int c]∧Scr K H a ns∧0≤c∧c<10 ^ 40∧Q (.str (lN ns (iz c))) H
def wdX (ns:List Int):List Str:=[yp,Uc,Xj,fj (aq ns 0) 0,afk]
def hwX:List Str:=[‹"<"›,‹"="›,‹">"›]
def JZ (ns:List Int) (c:Int):At:=if c / 24 % 2=0 then .is (lN ns (iz c)) ((wdX ns).getD (c / 48 % 5).toNat yp) else .cm (lN ns (iz c)) (hwX.getD (c / 48 % 3).toNat yp) (c / 144 % (2*10 ^ 18) - 10 ^ 18)
def awc (A:dq) (K:W.Frag):Sp:=fun vs H Q _=>∃ (a:Addr) (ns:List Int) (c:Int),vs=[.ref a,.int c]∧Scr K H a ns∧(∀ H',az H H'→Scr K H' a ns)∧0≤c∧c<10 ^ 40∧∀ v H',az H H'→JX A H' v (JZ ns c)→Q v H'
section
variable {P:Program}{w:World}{K:W.Frag}{mg:Str→Option Value}{base:Heap}{A:dq}
theorem Pa (T:Txt K mg A):aN P w K mg base dR 5 A.pM A.uF ["_law_script"] (awa A K):=by
 have du:=lY (P:=P) (w:=w) (base:=base) T
 have bh:=xT (P:=P) (w:=w) (base:=base) T
 have dN:=nC (P:=P) (w:=w) (base:=base) T
 have lD:=Ec (P:=P) (w:=w) (base:=base) T
 have De:=Lp (P:=P) (w:=w) (base:=base) T
 have Gu:=O2 (P:=P) (w:=w) (base:=base) T
 refine T.QX.ok nq (fun vs H Q E h=>?_) (fun cdv A0 outer s H vs Q E hr h=>?_)
 · obtain⟨a,ns,rfl,_⟩:=h
   rfl
 obtain⟨a,ns,rfl,hS,vO,q⟩:=h
 refine⟨_,(zD (zS (i:=1) nq.nd rfl ‹0› (zP R5 (zP yN (zO du ‹hr› rfl T.fJ T.fH T.fG .nil zM (zA (pv 0) (zA zH zC))) (zP rJ zH (zP rF zH zH))) (zP rF zH zH)))
     (zD (zS (i:=2) nq.nd rfl ‹0› (yM (zA (Qa T.Rb lD ‹hr› rfl T.Vq T.qP .nil zM) (zA (yP T.Z0 dN ‹hr› rfl T.ab9 T.gQ .nil zM (zA (pv 1) (zA (zP xO (pv 1) zH) zC))) (zA (yP T.Z2 dN ‹hr› rfl T.ab5 T.gQ .nil zM (zA (pv 1) (zA (pv 1) zC))) (zA (yP T.ace Gu ‹hr› rfl T.aeE T.Ez .nil zM (zA (yM (zA zQ (zA zQ (zA (zO bh ‹hr› rfl T.cH T.cG T.cD .nil zM (zA (pv 0) (zA zH zC))) zC)))) zC)) (zA (yP T.Z4 De ‹hr› rfl T.ab6 T.BR .nil zM (zA zH zC)) zC)))))))
     (zD (zS (i:=3) nq.nd rfl ‹0› (zP yN (zO du ‹hr› rfl T.fJ T.fH T.fG .nil zM (zA (pv 0) (zA zH zC))) zH))
     (zF (zR (zP rH (qI Gx (pv 2) (vG (pv 3)) vD) (qI Gx (pv 2) vD (vG (pv 3))))))))),?_⟩
 refine yX fun _ hN=>?_
 refine⟨_,rfl,a,ns,1,rfl,hS.1,by decide,hS.2.1,hS.2.2,?_⟩
 refine⟨_,_,rfl,rfl,⟨by decide,by decide⟩,_,_,rfl,rfl,⟨by decide,by decide⟩,_,_,rfl,rfl,(show (0:Int)<2*10 ^ 18 by decide),_,_,rfl,rfl,⟨by decide,by decide⟩,_,_,rfl,rfl,?_⟩
 refine hN _ _ ?_
 try dsimp only [bC,List.set_cons_succ,List.set_cons_zero]
 generalize hlo:(aq ns 1 % (2*10 ^ Int.toNat 18) - 10 ^ Int.toNat 18:Int)=lo
 have hlo:Uq ns=lo:=hlo
 refine yX fun _ hN=>?_
 intro x1 d1 nx1 nd1 ne1
 refine⟨x1,d1,rfl,zB,rfl,?_⟩
 rw [yA]
 dsimp only
 have s1:=xW (.ins A.aP d1 [("low",.int 0),("high",.int 1)]) nx1 nd1
 have k1:M9 A _ x1 .yn:=⟨d1,zB (H:=upd H d1 (.own x1)) (a:=x1) (o:=.ins A.aP d1 [("low",.int 0),("high",.int 1)])⟩
 generalize upd (upd H d1 (.own x1)) x1 (.ins A.aP d1 [("low",.int 0),("high",.int 1)])=H1 at s1 k1
 refine⟨_,rfl,_,rfl,_,_,rfl,rfl,?_⟩
 intro x2 d2 nx2 nd2 ne2
 refine⟨x2,A.bQ,d2,_,_,rfl,zB,T.o8,T.Ao,T.wB,rfl,?_⟩
 rw [yA]
 dsimp only
 have s2:=xW (.ins A.bQ d2 [("low",.int lo),("high",.int (lo+9))]) nx2 nd2
 have k2:M9 A _ x2 (.wh false lo (lo+9)):=⟨d2,zB (H:=upd H1 d2 (.own x2)) (a:=x2) (o:=.ins A.bQ d2 [("low",.int lo),("high",.int (lo+9))])⟩
 generalize upd (upd H1 d2 (.own x2)) x2 (.ins A.bQ d2 [("low",.int lo),("high",.int (lo+9))])=H2 at s2 k2
 refine⟨_,rfl,_,rfl,?_⟩
 intro x3 d3 nx3 nd3 ne3
 refine⟨x3,A.d7,d3,_,_,rfl,zB,T.o9,T.Aq,T.wC,rfl,?_⟩
 rw [yA]
 dsimp only
 have s3:=xW (.ins A.d7 d3 [("low",.int lo),("high",.int lo)]) nx3 nd3
 have k3:M9 A _ x3 (.wh true lo lo):=⟨d3,zB (H:=upd H2 d3 (.own x3)) (a:=x3) (o:=.ins A.d7 d3 [("low",.int lo),("high",.int lo)])⟩
 generalize upd (upd H2 d3 (.own x3)) x3 (.ins A.d7 d3 [("low",.int lo),("high",.int lo)])=H3 at s3 k3
 have Vw:=(s1.trans s2).trans s3
 have hS3:=vO _ Vw
 refine⟨_,rfl,a,ns,0,rfl,hS3.1,by decide,hS3.2.1,hS3.2.2,?_⟩
 refine⟨(by show 3≤sizeLine;decide),fun lw hlw=>?_⟩
 have sw:=zG hlw (.lst ((PJ ns).map V.str))
 have hw:(upd H3 lw (.lst ((PJ ns).map V.str))) lw=some (.lst ((PJ ns).map V.str)):=zB
 intro x4 d4 nx4 nd4 ne4
 have sm:=xW (.ins A.bT d4 []) nx4 nd4
 refine⟨x4,d4,lw,PJ ns,rfl,zB,sm _ _ hw,(by show 3≤100;decide),fun qa H5 F5 h5 h5q=>⟨rfl,?_⟩⟩
 have s4:az H3 H5:=fun b o hb=>F5 _ _ (sm _ _ (sw _ _ hb)) (Bc (zI (sw _ _ hb) nx4))
 have k4:M9 A H5 x4 (.pk (PJ ns)):=⟨d4,qa,_,h5,h5q⟩
 dsimp only
 intro x5 d5 nx5 nd5 ne5
 refine⟨x5,d5,_,rfl,zB,rfl,?_⟩
 rw [yA]
 dsimp only
 have s5:=xW (.ins A.cz d5 [("low",.int 0),("high",.int 4)]) nx5 nd5
 have k5:M9 A _ x5 (.nm 4):=⟨d5,zB (H:=upd H5 d5 (.own x5)) (a:=x5) (o:=.ins A.cz d5 [("low",.int 0),("high",.int 4)])⟩
 generalize upd (upd H5 d5 (.own x5)) x5 (.ins A.cz d5 [("low",.int 0),("high",.int 4)])=H6 at s5 k5
 refine⟨(by show 5≤sizeLine;decide),fun l hl=>?_⟩
 have s6:=zG hl (.lst [.ref x1,.ref x2,.ref x3,.ref x4,.ref x5])
 have hl6:(upd H6 l (.lst [.ref x1,.ref x2,.ref x3,.ref x4,.ref x5])) l=some (.lst [.ref x1,.ref x2,.ref x3,.ref x4,.ref x5]):=zB
 have hp:Paired (KR A (upd H6 l (.lst [.ref x1,.ref x2,.ref x3,.ref x4,.ref x5]))) [.ref x1,.ref x2,.ref x3,.ref x4,.ref x5] (kB ns):=by
   unfold kB
   rw [hlo]
   exact .cons ⟨x1,rfl,k1.same ((((s2.trans s3).trans s4).trans s5).trans s6)⟩ (.cons ⟨x2,rfl,k2.same (((s3.trans s4).trans s5).trans s6)⟩ (.cons ⟨x3,rfl,k3.same ((s4.trans s5).trans s6)⟩ (.cons ⟨x4,rfl,k4.same (s5.trans s6)⟩ (.cons ⟨x5,rfl,k5.same s6⟩ .nil))))
 have sA:=((Vw.trans s4).trans s5).trans s6
 generalize upd H6 l (.lst [.ref x1,.ref x2,.ref x3,.ref x4,.ref x5])=H7 at hl6 hp sA
 refine hN _ _ ?_
 try dsimp only [bC,List.set_cons_succ,List.set_cons_zero]
 have hS7:=vO _ sA
 refine yX fun _ hN=>?_
 refine⟨_,rfl,a,ns,2,rfl,hS7.1,by decide,hS7.2.1,hS7.2.2,?_⟩
 refine⟨_,_,rfl,rfl,(show (0:Int)<5 by decide),?_⟩
 have ht:(aq ns 2 % 5:Int)=(GZ ns:Int):=by
   unfold GZ
   have:=Int.emod_nonneg (aq ns 2) (show (5:Int)≠0 by decide)
   omega
 have hlt:=aaO ns
 refine hN _ _ ?_
 try dsimp only [bC,List.set_cons_succ,List.set_cons_zero]
 rw [ht]
 refine⟨_,rfl,_,rfl,_,rfl,l,_,rfl,cB.of hl6,fun l1 hl1=>?_⟩
 rw [CV (by show GZ ns≤5;omega)]
 have s7:=zG hl1 (.lst ([V.ref x1,.ref x2,.ref x3,.ref x4,.ref x5].drop (GZ ns)))
 have h71:(upd H7 l1 (.lst ([V.ref x1,.ref x2,.ref x3,.ref x4,.ref x5].drop (GZ ns)))) l1=some (.lst ([V.ref x1,.ref x2,.ref x3,.ref x4,.ref x5].drop (GZ ns))):=zB
 generalize upd H7 l1 (.lst ([V.ref x1,.ref x2,.ref x3,.ref x4,.ref x5].drop (GZ ns)))=H8 at s7 h71
 refine⟨_,rfl,_,rfl,_,rfl,l,_,rfl,cB.of (s7 _ _ hl6),fun l2 hl2=>?_⟩
 rw [Xk (by show GZ ns≤5;omega)]
 have s8:=zG hl2 (.lst ([V.ref x1,.ref x2,.ref x3,.ref x4,.ref x5].take (GZ ns)))
 refine⟨l1,l2,_,_,rfl,rfl,s8 _ _ h71,zB,?_,fun l3 hl3=>?_⟩
 · rw [List.length_drop,List.length_take,sizeLine_eq]
   show 5 - GZ ns+min (GZ ns) 5≤_
   omega
 have s9:=zG hl3 (.lst ([V.ref x1,.ref x2,.ref x3,.ref x4,.ref x5].drop (GZ ns)++[V.ref x1,.ref x2,.ref x3,.ref x4,.ref x5].take (GZ ns)))
 refine q l3 _ _ (sA.trans (s7.trans (s8.trans s9))) zB ?_
 exact zJ (yE (vg (GZ ns) hp) (Ej (GZ ns) hp)) fun _ _ r=>r.same (s7.trans (s8.trans s9))
end
def kw:Kx→Str
 | .yn=>‹"yesno"›
 | .wh false _ _=>‹"whole"›
 | .wh true _ _=>‹"money"›
 | .nm _=>‹"names"›
 | .pk _=>‹"pick"›
def nD:Str:=‹"sum"›
def tu:Str:=‹"nothing"›
def tD (ks:List Kx):Option Nat→Str
 | some k=>match ks[k]? with
   | some x=>kw x
   | none=>if k=10 then nD else tu
 | none=>tu
theorem Rz {a b:List Nat} (h:32∉a):my (a++([32]++b))=a::my b:=by
 have e:qL [32] (a::my b)=a++([32]++b):=by
   cases hb:my b with
   | nil=>exact absurd hb (Mz b)
   | cons x r =>
     show a++[32]++qL [32] (x::r)=_
     rw [← hb,Dr,List.append_assoc]
 rw [← e]
 exact MF (by simp) fun p hp=>by
   rcases List.mem_cons.mp hp with rfl | hp
   · exact h
   · exact Dq hp
theorem aaP:‹" "› = S [32]:=by symm
theorem aaQ {z a:Str} (h:32∉cd a) (e:z=a∨∃ b,z=a++(Str.ofString " " ++ b)):∃ r,Txt.split z ‹" "› = a::r:=by
 rw [aaP,Y6]
 rcases e with rfl | ⟨b,rfl⟩
 · rw [SX h,List.map_cons,zr];exact⟨_,rfl⟩
 · rw [j6,j6,aaP,En,Rz h,List.map_cons,zr];exact⟨_,rfl⟩
theorem vP (a b c:Str):a++b++c=a++(b++c):=by
 have:cd (a++b++c)=cd (a++(b++c)):=by rw [j6,j6,j6,j6,List.append_assoc]
 rw [← zr (a++b++c),this,zr]
theorem acL (x:Kx):32∉cd (kw x):=by
 rcases x with _ | ⟨_ | _,_,_⟩ | _ | _
 · show 32∉cd ‹"yesno"›;decide +kernel
 · show 32∉cd ‹"whole"›;decide +kernel
 · show 32∉cd ‹"money"›;decide +kernel
 · show 32∉cd ‹"names"›;decide +kernel
 · show 32∉cd ‹"pick"›;decide +kernel
theorem adD (x:Kx):tlK x=kw x∨∃ b,tlK x=kw x++(Str.ofString " " ++ b):=by
 rcases x with _ | ⟨_ | _,lo,hi⟩ | n | ws
 · exact .inl rfl
 · refine .inr ⟨S (shW false lo) ++ ‹" "› ++ S (shW false hi),?_⟩
   rw [← vP]
   show ‹"whole "› ++ _=_
   rw [show ‹"whole "› = ‹"whole"› ++ ‹" "› by symm];rfl
 · refine .inr ⟨S (shW true lo) ++ ‹" "› ++ S (shW true hi),?_⟩
   rw [← vP]
   show ‹"money "› ++ _=_
   rw [show ‹"money "› = ‹"money"› ++ ‹" "› by symm];rfl
 · refine .inr ⟨S (vV n),?_⟩
   rw [← vP]
   show ‹"names "› ++ _=_
   rw [show ‹"names "› = ‹"names"› ++ ‹" "› by symm];rfl
 · refine .inr ⟨Dm ‹" "› ws,?_⟩
   rw [← vP]
   show ‹"pick "› ++ _=_
   rw [show ‹"pick "› = ‹"pick"› ++ ‹" "› by symm];rfl
theorem afo {x:Kx} (g:x.G):(tlK x).length≤1000:=by
 rcases x with _ | ⟨m,lo,hi⟩ | n | ws
 · show ‹"yesno"›.length≤1000;decide +kernel
 · obtain⟨g1,g2⟩:lo.natAbs<10 ^ 60∧hi.natAbs<10 ^ 60:=g
   have:=aaj (m:=m) g1 g2
   show (Str.ofString (if m then "money " else "whole ")++_).length≤1000
   rw [len_app]
   have:(Str.ofString (if m then "money " else "whole ")).length=6:=by cases m <;> decide +kernel
   omega
 · have g:n.natAbs<10 ^ 60:=g
   have z:(S (vV n)).length≤100:=CP (m:=false) g
   show (Str.ofString "names " ++ S (vV n)).length≤1000
   rw [len_app]
   have:‹"names "›.length=6:=by symm
   omega
 · have g:=g.1
   show (Str.ofString "pick " ++ _).length≤1000
   rw [len_app]
   have:‹"pick "›.length=5:=by symm
   omega
theorem ajx (p:Int) (k:Nat) (hk:k<26):fj p k≠zzz:=fun e=>by
 have e2:=congrArg cd e
 rw [Vr] at e2
 have hz:cd zzz=[122,122]:=by symm
 have hk2:k / 26 % 26=0:=by omega
 have:(97:Nat)∈cd zzz:=by
   rw [← e2,hk2]
   simp
 rw [hz] at this
 simp at this
theorem tE (ns:List Int) {i:Option Nat}{k:Nat} (hi:∀ j,i=some j→j<26) (hk:k<26):lN ns i=fj (aq ns 0) k↔i=some k:=by
 cases i with
 | none=>exact⟨(fun e=>absurd e.symm (ajx _ _ hk)),fun e=>by cases e⟩
 | some j=>exact⟨fun e=>congrArg some (OJ (hi j rfl) hk e),fun e=>by cases e;rfl⟩
def awj (A:dq) (K:W.Frag):Sp:=fun vs H Q _=>∃ (l a:Addr) (ns:List Int) (xs:List V) (ks:List Kx) (i:Option Nat),vs=[.ref l,.ref a,.str (lN ns i)]∧H l=some (.lst xs)∧Paired (KR A H) xs ks∧ks.length=5∧(∀ x∈ks,x.G)∧Scr K H a ns∧(∀ H',az H H'→Scr K H' a ns)∧(∀ j,i=some j→j<26)∧∀ H',az H H'→Q (.str (tD ks i)) H'
section
variable {P:Program}{w:World}{K:W.Frag}{mg:Str→Option Value}{base:Heap}{A:dq}
theorem tG (T:Txt K mg A):aN P w K mg base dR 3 A.pN A.uG ["_law_script","_law_cell_here"] (awb K):=by
 have bh:=xT (P:=P) (w:=w) (base:=base) T
 refine T.Q4.ok OD (fun vs H Q E h=>?_) (fun cdv A0 outer s H vs Q E hr h=>?_)
 · obtain⟨a,ns,c,rfl,_⟩:=h
   rfl
 obtain⟨a,ns,c,rfl,hS,c0,c1,q⟩:=h
 refine⟨_,(zD (yF (zV xP (zP yN (pv 1) zH) zH (yD _)) (zF (zR (zO bh ‹hr› rfl T.cH T.cG T.cD .nil zM (zA (pv 0) (zA zH zC))))) zU)
     (zD (yF (zV xP (zP yN (pv 1) zH) zH (yD _)) (zF (zR zQ)) zU)
     (zD (yF (zV xP (zP yN (pv 1) zH) zH (yD _)) (zF (zR (zO bh ‹hr› rfl T.cH T.cG T.cD .nil zM (zA (pv 0) (zA (zP xO zH (zP yN (zP m5 (pv 1) zH) zH)) zC))))) zU)
     (zF (zR (zO bh ‹hr› rfl T.cH T.cG T.cD .nil zM (zA (pv 0) (zA (zP yN (pv 1) zH) zC)))))))),?_⟩
 have hp:=p40
 have ic:ib c≤60000000:=ibc (by omega)
 have m0:=Int.emod_nonneg c (show (8:Int)≠0 by decide)
 have m1:=Int.emod_lt_of_pos c (show (0:Int)<8 by decide)
 have n0:=Int.emod_nonneg (c / 8) (show (3:Int)≠0 by decide)
 have n1:=Int.emod_lt_of_pos (c / 8) (show (0:Int)<3 by decide)
 unfold iz at q
 refine⟨_,rfl,_,_,rfl,rfl,(by show (0:Int)<8;decide),rfl,_,rfl,jY (fun e=>?_) (fun e=>?_)⟩
 · have e:c % 8=5:=V.int.inj (of_decide_eq_true e)
   rw [if_pos e] at q
   exact⟨_,rfl,a,ns,10,rfl,hS.1,by decide,hS.2.1,hS.2.2,q⟩
 have e:¬ c % 8=5:=fun z=>e (decide_eq_true (congrArg V.int z))
 rw [if_neg e] at q
 refine⟨_,rfl,_,_,rfl,rfl,(by show (0:Int)<8;decide),rfl,_,rfl,jY (fun e=>?_) (fun e=>?_)⟩
 · have e:c % 8=6:=V.int.inj (of_decide_eq_true e)
   rw [if_pos e] at q
   exact q
 have e:¬ c % 8=6:=fun z=>e (decide_eq_true (congrArg V.int z))
 rw [if_neg e] at q
 refine⟨_,rfl,_,_,rfl,rfl,(by show (0:Int)<8;decide),rfl,_,rfl,jY (fun e=>?_) (fun e=>?_)⟩
 · have e:c % 8=7:=V.int.inj (of_decide_eq_true e)
   rw [if_pos e] at q
   exact⟨_,rfl,_,rfl,_,_,rfl,rfl,⟨by decide,by first | decide | exact ic⟩,_,_,rfl,rfl,(by show (0:Int)<3;decide),_,_,rfl,rfl,a,ns,12+(c / 8 % 3).toNat,(by dsimp only;rw [show (12:Int)+c / 8 % 3=((12+(c / 8 % 3).toNat:Nat):Int) by omega];rfl),hS.1,by omega,hS.2.1,hS.2.2,q⟩
 have e:¬ c % 8=7:=fun z=>e (decide_eq_true (congrArg V.int z))
 rw [if_neg e] at q
 exact⟨_,rfl,_,rfl,_,_,rfl,rfl,(by show (0:Int)<8;decide),a,ns,(c % 8).toNat,(by dsimp only;rw [show c % 8=(((c % 8).toNat:Nat):Int) by omega];rfl),hS.1,by omega,hS.2.1,hS.2.2,q⟩
theorem RB (T:Txt K mg A):aN P w K mg base dR 4 A.rY A.wX ["_law_script","_law_cell_here"] (awc A K):=by
 have bh:=xT (P:=P) (w:=w) (base:=base) T
 have mj:=tG (P:=P) (w:=w) (base:=base) T
 have jk:=yl (P:=P) (w:=w) (base:=base) T
 have jF:=Ed (P:=P) (w:=w) (base:=base) T
 refine T.TF.ok Ea (fun vs H Q E h=>?_) (fun cdv A0 outer s H vs Q E hr h=>?_)
 · obtain⟨a,ns,c,rfl,_⟩:=h
   rfl
 obtain⟨a,ns,c,rfl,hS,vO,c0,c1,q⟩:=h
 refine⟨_,(zD (zS (i:=2) Ea.nd rfl ‹0› (zO mj ‹hr› rfl T.uQ T.uP T.uO .nil zM (zA (pv 0) (zA (pv 1) zC))))
     (zD (yF (zV xP (zP yN (zP m5 (pv 1) zH) zH) zH (yD _)) (zF (zR (yP T.Z8 jk ‹hr› rfl T.aeD T.uK T.uL zM (zA (pv 2) (zA (xX xR (yM (zA zQ (zA zQ (zA zQ (zA (zO bh ‹hr› rfl T.cH T.cG T.cD .nil zM (zA (pv 0) (zA zH zC))) (zA zQ zC)))))) (zP yN (zP m5 (pv 1) zH) zH) (fun _ _=>rfl)) zC))))) zU)
     (zF (zR (yP T.JC jF ‹hr› rfl T.M7 T.o5 .nil zM (zA (pv 2) (zA (xX xR (yM (zA zQ (zA zQ (zA zQ zC)))) (zP yN (zP m5 (pv 1) zH) zH) (fun _ _=>rfl)) (zA (zP R5 (zP yN (zP m5 (pv 1) zH) (zP rJ zH (zP rF zH zH))) (zP rF zH zH)) zC)))))))),?_⟩
 have hp:=p40
 have ic:ib c≤60000000:=ibc (by omega)
 refine⟨_,rfl,_,rfl,a,ns,c,rfl,hS,c0,c1,?_⟩
 dsimp only [bC,List.set_cons_succ,List.set_cons_zero]
 unfold JZ at q
 refine⟨_,rfl,_,_,rfl,rfl,⟨by decide,by first | decide | exact ic⟩,_,_,rfl,rfl,(by show (0:Int)<2;decide),rfl,_,rfl,jY (fun e=>?_) (fun e=>?_)⟩
 · have e:c / 24 % 2=0:=V.int.inj (of_decide_eq_true e)
   rw [if_pos e] at q
   have n0:=Int.emod_nonneg (c / 48) (show (5:Int)≠0 by decide)
   have n1:=Int.emod_lt_of_pos (c / 48) (show (0:Int)<5 by decide)
   refine⟨_,rfl,_,rfl,a,ns,0,rfl,hS.1,by decide,hS.2.1,hS.2.2,(by show 5≤sizeLine;decide),fun l hl=>?_⟩
   have s1:=zG hl (.lst ((wdX ns).map V.str))
   have h1:(upd H l (.lst ((wdX ns).map V.str))) l=some (.lst ((wdX ns).map V.str)):=zB
   have hat:((wdX ns).map V.str)[(c / 48 % 5).toNat]? = some (.str ((wdX ns).getD (c / 48 % 5).toNat yp)):=by
     rw [List.getElem?_map,List.getD_eq_getElem?_getD,List.getElem?_eq_getElem (show (c / 48 % 5).toNat<(wdX ns).length by show _<5;omega)];rfl
   have aaR:=xE hat
   rw [show (((c / 48 % 5).toNat:Nat):Int)=c / 48 % 5 by omega] at aaR
   refine⟨_,rfl,_,_,rfl,rfl,⟨by decide,by first | decide | exact ic⟩,_,_,rfl,rfl,(by show (0:Int)<5;decide),l,_,_,_,rfl,rfl,cB.of h1,aaR,?_⟩
   refine fun x dx nx nd ne=>⟨x,dx,_,_,_,rfl,zB,rfl,?_⟩
   rw [yA]
   exact q _ _ (s1.trans (yW nx nd _)) ⟨x,dx,rfl,zB⟩
 · have e:¬ c / 24 % 2=0:=fun z=>e (decide_eq_true (congrArg V.int z))
   rw [if_neg e] at q
   have n0:=Int.emod_nonneg (c / 48) (show (3:Int)≠0 by decide)
   have n1:=Int.emod_lt_of_pos (c / 48) (show (0:Int)<3 by decide)
   refine⟨_,rfl,(by show 3≤sizeLine;decide),fun l hl=>?_⟩
   have s1:=zG hl (.lst (hwX.map V.str))
   have h1:(upd H l (.lst (hwX.map V.str))) l=some (.lst (hwX.map V.str)):=zB
   have hat:(hwX.map V.str)[(c / 48 % 3).toNat]? = some (.str (hwX.getD (c / 48 % 3).toNat yp)):=by
     rw [List.getElem?_map,List.getD_eq_getElem?_getD,List.getElem?_eq_getElem (show (c / 48 % 3).toNat<hwX.length by show _<3;omega)];rfl
   have aaR:=xE hat
   rw [show (((c / 48 % 3).toNat:Nat):Int)=c / 48 % 3 by omega] at aaR
   refine⟨_,rfl,_,_,rfl,rfl,⟨by decide,by first | decide | exact ic⟩,_,_,rfl,rfl,(by show (0:Int)<3;decide),l,_,_,_,rfl,rfl,cB.of h1,aaR,?_⟩
   refine⟨_,rfl,_,_,rfl,rfl,⟨by decide,by first | decide | exact ic⟩,_,_,rfl,rfl,⟨by decide,by decide⟩,_,_,rfl,rfl,⟨by decide,by decide⟩,_,_,rfl,rfl,(show (0:Int)<2*10 ^ 18 by decide),_,_,rfl,rfl,⟨by decide,by decide⟩,_,_,rfl,rfl,?_⟩
   refine fun x dx nx nd ne=>⟨x,dx,_,_,_,rfl,zB,rfl,?_⟩
   rw [yA]
   exact q _ _ (s1.trans (yW nx nd _)) ⟨x,dx,rfl,zB⟩
theorem vm (T:Txt K mg A):aN P w K mg base dR 7 A.rZ A.wY ["_law_kinds_here","_law_script","_law_name_here"] (awj A K):=by
 have bh:=xT (P:=P) (w:=w) (base:=base) T
 refine T.TQ.ok vf (fun vs H Q E h=>?_) (fun cdv A0 outer s H vs Q E hr h=>?_)
 · obtain⟨l,a,ns,xs,ks,i,rfl,_⟩:=h
   rfl
 obtain⟨l,a,ns,xs,ks,i,rfl,hl,hp,Vz,hG,hS,vO,hi,q⟩:=h
 refine⟨_,(zD (yT PassesOwn.never rfl (rN rfl T.iG (zA (pv 0) zC)) (j5 rfl (yB (zX (i:=3) vf.nd rfl ‹0›) (yB (zX (i:=4) vf.nd rfl ‹0›) xL))) (zF (yF (zV xP (pv 2) (zO bh ‹hr› rfl T.cH T.cG T.cD .nil zM (zA (pv 1) (zA (pv 3) zC))) (yD _)) (zF (zR (xX xR (uw PySem.F.plainAttrs_str PySem.F.slot_str_split PySem.F.type_str_split Y5 (xU (CX:=dR) (k:=6) ‹hr› zM (pv 4)) (zA zQ zC)) zH (fun _ _=>rfl)))) zU)))
     (zD (yF (zV xP (pv 2) (zO bh ‹hr› rfl T.cH T.cG T.cD .nil zM (zA (pv 1) (zA zH zC))) (yD _)) (zF (zR zQ)) zU)
     (zF (zR zQ)))),?_⟩
 have lx:xs.length=5:=by rw [zK hp];exact Vz
 refine⟨_,rfl,l,rfl,⟨_,cB.of hl⟩,?_⟩
 refine qM (xs:=xs) (fun j σ G=>az H G∧(∀ m,m<j→i≠some m)∧∃ u3 u4,σ=[some (.ref l),some (.ref a),some (.str (lN ns i)),u3,u4]) ⟨az.refl _,(fun m h=>by omega),_,_,rfl⟩ (fun j σ G _ hw=>cB.of (hw.1 _ _ hl)) (fun j x σ G PB hw Tt hT=>?_) (fun σ G hw=>?_)
 · obtain⟨s1,hno,u3,u4,rfl⟩:=hw
   obtain⟨kx,hkj,k,rfl,hk⟩:=zW hp PB
   have hj:j<5:=by rw [← lx];exact (List.getElem?_eq_some_iff.mp PB).1
   have sT:=zG hT (.tup [.int (j:Nat),.ref k])
   have s2:=s1.trans sT
   refine⟨Tt,_,rfl,jJ.of zB,rfl,_,_,rfl,_,_,rfl,rfl,?_⟩
   generalize upd G Tt (.tup [.int (j:Nat),.ref k])=G2 at sT s2
   dsimp only [bC,List.set_cons_succ,List.set_cons_zero]
   have hS2:=vO _ s2
   refine⟨_,rfl,_,rfl,_,rfl,a,ns,j,rfl,hS2.1,by omega,hS2.2.1,hS2.2.2,rfl,_,rfl,jY (fun e=>?_) (fun e=>?_)⟩
   · have e:lN ns i=fj (aq ns 0) j:=V.str.inj (of_decide_eq_true e)
     have e:i=some j:=(tE ns hi (by omega)).mp e
     subst e
     have hk2:=hk.same s2
     obtain⟨dk,fs,hk3,_,hlk,_⟩:=hk2.ins T
     obtain⟨M,hdv,hsp⟩:=aao (P:=P) (w:=w) (base:=base) T kx
     have hg:=hG kx (List.mem_of_getElem? hkj)
     refine⟨_,rfl,k,_,dk,fs,M,rfl,hk3,hlk,?_⟩
     dsimp only [J0]
     rw [hdv]
     refine hsp k _ _ _ hk2 hg fun H3 s3=>?_
     have hlen:=afo hg
     refine⟨rfl,_,_,rfl,rfl,(by symm),(by omega),fun l2 hl2=>?_⟩
     obtain⟨r,hr'⟩:=aaQ (acL kx) (adD kx)
     rw [hr']
     refine⟨l2,_,0,.str (kw kx),rfl,rfl,cB.of zB,(by have:=xE (show ((kw kx::r).map V.str)[0]? = some (V.str (kw kx)) from rfl);exact this),?_⟩
     have e0:tD ks (some j)=kw kx:=by unfold tD;dsimp only;rw [hkj]
     rw [e0] at q
     exact q _ (s2.trans (s3.trans (zG hl2 _)))
   · have e:¬ i=some j:=fun z=>e (decide_eq_true (congrArg V.str ((tE ns hi (by omega)).mpr z)))
     refine⟨s2,fun m hm z=>?_,_,_,rfl⟩
     by_cases c:m=j
     · subst c;exact e z
     · exact hno m (by omega) z
 · obtain⟨s1,hno,u3,u4,rfl⟩:=hw
   rw [lx] at hno
   have hS2:=vO _ s1
   have hnone:∀ k,i=some k→ks[k]? = none:=fun k hk=>by
     rw [List.getElem?_eq_none_iff,Vz]
     by_cases c:k<5
     · exact absurd hk (hno k c)
     · omega
   refine⟨_,rfl,_,rfl,a,ns,10,rfl,hS2.1,by decide,hS2.2.1,hS2.2.2,rfl,_,rfl,jY (fun e=>?_) (fun e=>?_)⟩
   · have e:lN ns i=fj (aq ns 0) 10:=V.str.inj (of_decide_eq_true e)
     have e:i=some 10:=(tE ns hi (by omega)).mp e
     subst e
     have e0:tD ks (some 10)=nD:=by unfold tD;dsimp only;rw [hnone 10 rfl];rfl
     rw [e0] at q
     exact q _ s1
   · have e:¬ i=some 10:=fun z=>e (decide_eq_true (congrArg V.str ((tE ns hi (by omega)).mpr z)))
     have e0:tD ks i=tu:=by
       cases i with
       | none=>rfl
       | some k=>unfold tD;dsimp only;rw [hnone k rfl];exact if_neg fun z=>e (by rw [z])
     rw [e0] at q
     exact q _ s1
end
def j0:Str:=‹"pick"›
def fU:Str:=‹"yesno"›
def jW:Str:=‹"names"›
def Ur:List Str:=[‹"whole"›,‹"money"›,jW,nD]
def zW2:List Str:=[tu,nD]
def Pb:List Str:=[yp,Uc]
def gdF (ns:List Int) (z:Str):At→Bool
 | .is _ wd=>if z=j0 then decide (wd∈PJ ns) else decide (z=fU) && decide (wd∈Pb)
 | .cm ..=>decide (z∈Ur)
def Lz (ns:List Int) (z:Str) (t:At):List Flt:=if z=tu then [(false,t.nm)] else if gdF ns z t then [] else [(true,t.nm)]
def FsR (H:Hp) (l:Addr) (fs:List Flt):Prop:=∃ xs,H l=some (.lst xs)∧Paired (fun x f=>O6 H x (some f)) xs fs
theorem FsR.same {H H':Hp} (s:az H H') {l:Addr}{fs:List Flt} (h:FsR H l fs):FsR H' l fs:=by
 obtain⟨xs,h1,h2⟩:=h
 exact⟨xs,s _ _ h1,zJ h2 fun _ _ r=>r.lk (.of s)⟩
def KsR (A:dq) (K:W.Frag) (H:Hp) (l a:Addr) (ns:List Int) (ks:List Kx):Prop:=(∃ xs,H l=some (.lst xs)∧Paired (KR A H) xs ks)∧ks.length=5∧(∀ x∈ks,x.G)∧∀ H',az H H'→Scr K H' a ns
theorem KsR.same {A:dq}{K:W.Frag}{H H':Hp} (s:az H H') {l a:Addr}{ns:List Int}{ks:List Kx} (h:KsR A K H l a ns ks):KsR A K H' l a ns ks:=by
 obtain⟨⟨xs,h1,h2⟩,h3,h4,h5⟩:=h
 exact⟨⟨xs,s _ _ h1,zJ h2 fun _ _ r=>r.same s⟩,h3,h4,fun G t=>h5 G (s.trans t)⟩
def ajy (A:dq) (K:W.Frag):Sp:=fun vs H Q _=>∃ (l a:Addr) (v:V) (ns:List Int) (ks:List Kx) (t:At) (i:Option Nat),vs=[.ref l,.ref a,v]∧KsR A K H l a ns ks∧JX A H v t∧t.nm=lN ns i∧(∀ j,i=some j→j<26)∧∀ p H',az H H'→FsR H' p (Lz ns (tD ks i) t)→Q (.ref p) H'
section
variable {P:Program}{w:World}{K:W.Frag}{mg:Str→Option Value}{base:Heap}{A:dq}
theorem Us (T:Txt K mg A):aN P w K mg base dR 8 A.vM A.BJ ["_law_kinds_here","_law_script","_law_atom_here"] (ajy A K):=by
 have bh:=xT (P:=P) (w:=w) (base:=base) T
 have pC:=vm (P:=P) (w:=w) (base:=base) T
 refine T.WY.ok pA (fun vs H Q E h=>?_) (fun cdv A0 outer s H vs Q E hr h=>?_)
 · obtain⟨l,a,v,ns,ks,t,i,rfl,_⟩:=h
   rfl
 obtain⟨l,a,v,ns,ks,t,i,rfl,⟨⟨xs,hl,hp⟩,Vz,hG,vO⟩,hv,hnm,hi,q⟩:=h
 refine⟨_,(zD (zS (i:=3) pA.nd rfl ‹0› (zO pC ‹hr› rfl T.xq T.xn T.xm .nil zM (zA (pv 0) (zA (pv 1) (zA (zN (pv 2) rfl) zC)))))
     (zD (yF (zV xP (pv 3) zQ (yD _)) (zF (zR (yM (zA (yL (zA zQ (zA (zN (pv 2) rfl) zC))) zC)))) zU)
     (zD (zS (i:=4) pA.nd rfl ‹0› (xM nG (pv 3) (yM (zA zQ (zA zQ (zA zQ (zA zQ zC))))) (by rfl)))
     (zD (yF (yZ (zY yH (by rfl) T.aD Bt.isinstance (zA (pv 2) (zA (xN rfl T.avL) zC)))) (zD (zS (i:=4) pA.nd rfl ‹0› (uq (xM xP (pv 3) zQ (yD _)) (uo (xM nG (zN (pv 2) rfl) (yM (zA zQ (zA zQ zC))) (by rfl)))))
     (zF (yF (zV xP (pv 3) zQ (yD _)) (zF (zS (i:=4) pA.nd rfl ‹0› (xM nG (zN (pv 2) rfl) (yM (zA zQ (zA zQ (zA (zO bh ‹hr› rfl T.cH T.cG T.cD .nil zM (zA (pv 1) (zA zH zC))) zC)))) (by rfl)))) zU))) zU)
     (zD (yF (yZ (pv 4)) (zF (zR (yM zC))) zU)
     (zF (zR (yM (zA (yL (zA zQ (zA (zN (pv 2) rfl) zC))) zC))))))))),?_⟩
 obtain⟨b,C,ds,fs,rfl,hb,cl,na,hfl⟩:=hv.fld T
 rw [hnm] at hfl
 refine⟨_,rfl,_,rfl,_,rfl,b,C,ds,fs,_,rfl,hb,cl,na,hfl,l,a,ns,xs,ks,i,rfl,hl,hp,Vz,hG,vO _ (az.refl _),vO,hi,fun H1 s1=>?_⟩
 dsimp only [bC,List.set_cons_succ,List.set_cons_zero]
 generalize tD ks i=z at q ⊢
 unfold Lz at q
 rw [hnm] at q
 refine⟨_,rfl,rfl,_,rfl,jY (fun e=>?_) (fun e=>?_)⟩
 · have e:z=tu:=V.str.inj (of_decide_eq_true e)
   rw [if_pos e] at q
   refine⟨_,rfl,b,C,ds,fs,_,rfl,s1 _ _ hb,cl,na,hfl,(by show 2≤sizeLine;decide),fun t1 ht1=>⟨(by show 1≤sizeLine;decide),fun l1 hl1=>?_⟩⟩
   have s2:=zG ht1 (.tup (Vt (some (false,lN ns i))))
   have s3:=zG hl1 (.lst [.ref t1])
   exact q l1 _ (s1.trans (s2.trans s3)) ⟨_,zB,.cons ⟨t1,rfl,s3 _ _ zB⟩ .nil⟩
 have e:¬ z=tu:=fun h=>e (decide_eq_true (congrArg V.str h))
 rw [if_neg e] at q
 refine⟨_,rfl,(by show 4≤sizeLine;decide),fun l1 hl1=>?_⟩
 have s2:=zG hl1 (.lst (Ur.map V.str))
 have h2:(upd H1 l1 (.lst (Ur.map V.str))) l1=some (.lst (Ur.map V.str)):=zB
 refine⟨l1,_,rfl,.inl (cB.of h2),rfl,lC Ur,?_⟩
 rw [rn]
 dsimp only [bC,List.set_cons_succ,List.set_cons_zero]
 have s12:=s1.trans s2
 refine yU (fun σ' G=>az H G∧σ'=[some (.ref l),some (.ref a),some (.ref b),some (.str z),some (.bl (gdF ns z t))]) (fun σ' G hR=>?_) (fun _ hk=>?_)
 · obtain⟨sG,rfl⟩:=hR
   refine⟨_,rfl,_,rfl,jY (fun c=>?_) (fun c=>?_)⟩
   · rw [if_pos c] at q
     exact⟨(by show 0≤sizeLine;decide),fun l2 hl2=>q l2 _ (sG.trans (zG hl2 _)) ⟨_,zB,.nil⟩⟩
   · rw [if_neg c] at q
     refine⟨_,rfl,b,C,ds,fs,_,rfl,sG _ _ hb,cl,na,hfl,(by show 2≤sizeLine;decide),fun t1 ht1=>⟨(by show 1≤sizeLine;decide),fun l1 hl1=>?_⟩⟩
     have s2:=zG ht1 (.tup (Vt (some (true,lN ns i))))
     have s3:=zG hl1 (.lst [.ref t1])
     exact q l1 _ (sG.trans (s2.trans s3)) ⟨_,zB,.cons ⟨t1,rfl,s3 _ _ zB⟩ .nil⟩
 · cases t with
   | cm z' h' n =>
     obtain⟨b',ds',eb,hb'⟩:=hv
     cases eb
     refine⟨_,rfl,_,_,_,_,rfl,rfl,.old (T.T7 _ b ds' _ (s12 _ _ hb')),T.KH,_,rfl,bD ?_⟩
     exact hk _ _ ⟨s12,rfl⟩
   | is z' wd =>
     obtain⟨b',ds',eb,hb'⟩:=hv
     cases eb
     have hb2:=s12 _ _ hb'
     refine⟨_,rfl,_,_,_,_,rfl,rfl,.old (T.aiX _ b ds' _ hb2),T.ZW,_,rfl,cJ ?_⟩
     refine yU (fun σ' G=>az H G∧σ'=[some (.ref l),some (.ref a),some (.ref b),some (.str z),some (.bl (decide (z=fU) && decide (wd∈Pb)))]) (fun σ' G hR=>?_) (fun _ hk2=>?_)
     · obtain⟨sG,rfl⟩:=hR
       refine⟨_,rfl,rfl,_,rfl,jY (fun e=>?_) (fun e=>?_)⟩
       · have e:z=j0:=V.str.inj (of_decide_eq_true e)
         have hS:=vO _ sG
         refine⟨_,rfl,b,_,ds',_,_,rfl,sG _ _ hb',T.jj,T.jE,rfl,_,rfl,a,ns,0,rfl,hS.1,by decide,hS.2.1,hS.2.2,(by show 3≤sizeLine;decide),fun l2 hl2=>?_⟩
         have s3:=zG hl2 (.lst ((PJ ns).map V.str))
         have h3:(upd G l2 (.lst ((PJ ns).map V.str))) l2=some (.lst ((PJ ns).map V.str)):=zB
         refine⟨l2,_,rfl,.inl (cB.of h3),rfl,lC (PJ ns),?_⟩
         rw [rn]
         refine hk _ _ ⟨sG.trans s3,?_⟩
         unfold gdF
         dsimp only
         rw [if_pos e]
         rfl
       · have e:¬ z=j0:=fun h=>e (decide_eq_true (congrArg V.str h))
         refine hk _ _ ⟨sG,?_⟩
         unfold gdF
         dsimp only
         rw [if_neg e]
     · refine⟨_,rfl,rfl,_,rfl,jY (fun e=>?_) (fun e=>?_)⟩
       · have e:z=fU:=V.str.inj (of_decide_eq_true e)
         refine⟨_,rfl,b,_,ds',_,_,rfl,hb2,T.jj,T.jE,rfl,(by show 2≤sizeLine;decide),fun l2 hl2=>?_⟩
         have s3:=zG hl2 (.lst (Pb.map V.str))
         have h3:=zB (H:=upd H1 l1 (.lst (Ur.map V.str))) (a:=l2) (o:=.lst (Pb.map V.str))
         refine⟨l2,_,rfl,.inl (cB.of h3),rfl,lC Pb,?_⟩
         rw [rn]
         refine hk2 _ _ ⟨s12.trans s3,?_⟩
         rw [decide_eq_true e]
         rfl
       · have e0:¬ z=fU:=fun h=>e (decide_eq_true (congrArg V.str h))
         refine hk2 _ _ ⟨s12,?_⟩
         rw [decide_eq_false e0]
         rfl
end
def PK (c:Int) (y:Sy) (t:At):Sy:=if c % 2=0 then .pr false y (.c t) else .pr true y (.nt (.c t))
def Xq (c:Int) (t:At):Sy:=if c % 3=1 then .nt (.c t) else .c t
def syF (c:Int) (t:At) (r:List At):Sy:=r.foldl (PK c) (Xq c t)
theorem afq (c:Int) (y:Sy) (t:At):(PK c y t).at=y.at++[t]:=by unfold PK;split <;> rfl
theorem aaS (c:Int):∀ (r:List At) (y:Sy),(r.foldl (PK c) y).at=y.at++r
 | [],y=>(List.append_nil _).symm
 | t::r,y=>by
   show (r.foldl (PK c) (PK c y t)).at=_
   rw [aaS c r,afq,List.append_assoc];rfl
theorem afr (c:Int) (t:At):(Xq c t).at=[t]:=by unfold Xq;split <;> rfl
theorem afs (c:Int) (t:At):(Xq c t).dp≤1:=by
 unfold Xq
 split
 · exact Nat.le_refl 1
 · exact Nat.zero_le 1
theorem aft (c:Int) (y:Sy) (t:At):(PK c y t).dp≤max y.dp 1+1:=by
 unfold PK
 split
 · show max y.dp 0+1≤_;omega
 · show max y.dp 1+1≤_;omega
theorem aaT (c:Int):∀ (r:List At) (y:Sy) (m:Nat),y.dp≤m→1≤m→(r.foldl (PK c) y).dp≤m+r.length
 | [],y,m,h,_=>h
 | t::r,y,m,h,h1=>by
   have:=aaT c r (PK c y t) (m+1) (Nat.le_trans (aft c y t) (by omega)) (by omega)
   rw [List.length_cons]
   show (r.foldl (PK c) (PK c y t)).dp≤_
   omega
def afu (A:dq):Sp:=fun vs H Q _=>∃ (l:Addr) (c:Int) (xs:List V) (t:At) (r:List At),vs=[.ref l,.int c]∧H l=some (.lst xs)∧Paired (JX A H) xs (t::r)∧∀ v H',az H H'→Nf A H' (syF c t r) v→Q v H'
section
variable {P:Program}{w:World}{K:W.Frag}{mg:Str→Option Value}{base:Heap}{A:dq}
theorem LC (T:Txt K mg A):aN P w K mg base dR 3 A.m9 A.su ["_law_atoms","_law_cell_here"] (afu A):=by
 have vo:=Rm (P:=P) (w:=w) (base:=base) T
 have tX:=O3 (P:=P) (w:=w) (base:=base) T
 refine T.Oe.ok ie (fun vs H Q E h=>?_) (fun cdv A0 outer s H vs Q E hr h=>?_)
 · obtain⟨l,c,xs,t,r,rfl,_⟩:=h
   rfl
 obtain⟨l,c,xs,t,r,rfl,hl,hp,q⟩:=h
 refine⟨_,(zD (zS (i:=2) ie.nd rfl ‹0› (xX xR (pv 0) zH (fun _ _=>rfl)))
     (zD (yF (zV xP (zP yN (pv 1) zH) zH (yD _)) (zF (zS (i:=2) ie.nd rfl ‹0› (yP T.Z9 vo ‹hr› rfl T.adl T.uM .nil zM (zA (pv 2) zC)))) zU)
     (zD (yT PassesOwn.never rfl (yO (qI Gx (pv 0) (vG zH) vD)) (zX (i:=3) ie.nd rfl ‹0›) (zF (yF (zV xP (zP yN (pv 1) zH) zH (yD _)) (zF (zS (i:=2) ie.nd rfl ‹0› (yP T.acf tX ‹hr› rfl T.aeC T.tR .nil zM (zA (pv 2) (zA (pv 3) zC))))) (zF (zS (i:=2) ie.nd rfl ‹0› (yP T.W5 tX ‹hr› rfl T.ZS T.tR .nil zM (zA (pv 2) (zA (yP T.Z9 vo ‹hr› rfl T.adl T.uM .nil zM (zA (pv 3) zC)) zC))))))))
     (zF (zR (pv 2)))))),?_⟩
 cases hp with
 | @cons x _ xr _ hx hr' =>
 refine⟨_,rfl,l,_,0,x,rfl,rfl,cB.of hl,(by have:=xE (show (x::xr)[0]? = some x from rfl);exact this),?_⟩
 dsimp only [bC,List.set_cons_succ,List.set_cons_zero]
 refine yU (fun σ' G=>∃ v,az H G∧Nf A G (Xq c t) v∧σ'=[some (.ref l),some (.int c),some v,none]) (fun σ' G hR=>?_) (fun _ hk=>?_)
 · obtain⟨v,sG,hv,rfl⟩:=hR
   refine⟨_,rfl,_,rfl,l,_,rfl,cB.of (sG _ _ hl),fun l2 hl2=>?_⟩
   rw [show (1:Int)=((1:Nat):Int) from rfl,CV (by show 1≤xr.length+1;omega),show (x::xr).drop 1=xr from rfl]
   have s2:=zG hl2 (.lst xr)
   have h2:(upd G l2 (.lst xr)) l2=some (.lst xr):=zB
   refine⟨l2,rfl,⟨_,cB.of h2⟩,?_⟩
   generalize upd G l2 (.lst xr)=G2 at s2 h2
   refine yR (xs:=xr) (fun j σ G3=>∃ v u,az G2 G3∧Nf A G3 ((r.take j).foldl (PK c) (Xq c t)) v∧σ=[some (.ref l),some (.int c),some v,u]) ⟨_,_,az.refl _,hv.same s2,rfl⟩ (fun j σ G3 _ hw=>hw.elim fun _ hw=>hw.elim fun _ hw=>cB.of (hw.1 _ _ h2)) (fun j y σ G3 hyj hw=>?_) (fun σ G3 hw=>?_)
   · obtain⟨v,u,s3,hv3,rfl⟩:=hw
     obtain⟨ty,hty,hay⟩:=zW hr' hyj
     have sH:=sG.trans (s2.trans s3)
     have ajz:=hay.same sH
     dsimp only [bC,List.set_cons_succ,List.set_cons_zero]
     have e0:(r.take (j+1)).foldl (PK c) (Xq c t)=PK c ((r.take j).foldl (PK c) (Xq c t)) ty:=by rw [yJ hty,List.foldl_append];rfl
     rw [e0]
     generalize (r.take j).foldl (PK c) (Xq c t)=yy at hv3
     unfold PK
     refine⟨_,rfl,_,_,rfl,rfl,(by show (0:Int)<2;decide),rfl,_,rfl,jY (fun e=>?_) (fun e=>?_)⟩
     · have e:c % 2=0:=V.int.inj (of_decide_eq_true e)
       rw [if_pos e]
       refine⟨_,rfl,_,rfl,fun p dx nx nd ne=>⟨p,false,dx,_,_,rfl,zB,rfl,?_⟩⟩
       rw [yA]
       have sm:=yW nx nd (oPr A false dx v y)
       exact⟨_,_,s3.trans sm,⟨p,dx,v,y,rfl,zB,hv3.same sm,ajz.same sm⟩,rfl⟩
     · have e:¬ c % 2=0:=fun z=>e (decide_eq_true (congrArg V.int z))
       rw [if_neg e]
       refine⟨_,rfl,_,rfl,fun p dx nx nd ne=>⟨p,dx,_,rfl,zB,rfl,?_⟩⟩
       rw [yA]
       have sm:=yW nx nd (oNo A dx y)
       have hno:(upd (upd G3 dx (.own p)) p (oNo A dx y)) p=some (oNo A dx y):=zB
       generalize upd (upd G3 dx (.own p)) p (oNo A dx y)=G4 at sm hno
       refine fun p2 dx2 nx2 nd2 ne2=>⟨p2,true,dx2,_,_,rfl,zB,rfl,?_⟩
       rw [yA]
       have sm2:=yW nx2 nd2 (oPr A true dx2 v (.ref p))
       exact⟨_,_,s3.trans (sm.trans sm2),⟨p2,dx2,v,.ref p,rfl,zB,hv3.same (sm.trans sm2),⟨p,dx,y,rfl,sm2 _ _ hno,ajz.same (sm.trans sm2)⟩⟩,rfl⟩
   · obtain⟨v,u,s3,hv3,rfl⟩:=hw
     rw [zK hr',List.take_length] at hv3
     exact⟨_,rfl,q v _ (sG.trans (s2.trans s3)) hv3⟩
 · unfold Xq at hk
   refine⟨_,rfl,_,_,rfl,rfl,(by show (0:Int)<3;decide),rfl,_,rfl,jY (fun e=>?_) (fun e=>?_)⟩
   · have e:c % 3=1:=V.int.inj (of_decide_eq_true e)
     rw [if_pos e] at hk
     refine⟨_,rfl,fun p dx nx nd ne=>⟨p,dx,_,rfl,zB,rfl,?_⟩⟩
     rw [yA]
     have sm:=yW nx nd (oNo A dx x)
     exact hk _ _ ⟨_,sm,⟨p,dx,x,rfl,zB,hx.same sm⟩,rfl⟩
   · have e:¬ c % 3=1:=fun z=>e (decide_eq_true (congrArg V.int z))
     rw [if_neg e] at hk
     exact hk _ _ ⟨x,az.refl _,hx,rfl⟩
end
theorem VB {c:Int}{j:Nat} (h:iz c=some j):j<26:=by
 unfold iz at h
 have m0:=Int.emod_nonneg c (show (8:Int)≠0 by decide)
 have m1:=Int.emod_lt_of_pos c (show (0:Int)<8 by decide)
 have n1:=Int.emod_lt_of_pos (c / 8) (show (0:Int)<3 by decide)
 split at h
 · cases h;decide
 · split at h
   · cases h
   · split at h <;> (cases h;omega)
def cE (ns:List Int):Int:=aq ns 3 % 10 ^ 40
def eaI (ns:List Int):Option (Option Nat):=if cE ns % 2=0 then none else some (iz (cE ns / 2))
def RC (ns:List Int) (ks:List Kx) (i:Option Nat):List Flt:=if tD ks i=jW then [] else if tD ks i∈zW2 then [(false,lN ns i)] else [(true,lN ns i)]
def RW (ns:List Int) (ks:List Kx):List Flt:=match eaI ns with
 | none=>[]
 | some i=>RC ns ks i
def ajA (A:dq) (K:W.Frag):Sp:=fun vs H Q _=>∃ (a l:Addr) (ns:List Int) (ks:List Kx),vs=[.ref a,.ref l]∧KsR A K H l a ns ks∧∀ t p H',az H H'→H' t=some (.tup [nv ((eaI ns).map (lN ns)),.ref p])→FsR H' p (RW ns ks)→Q (.ref t) H'
theorem ajB (ns:List Int):0≤cE ns∧cE ns<10 ^ 40:=⟨Int.emod_nonneg _ (by decide),Int.emod_lt_of_pos _ (by decide)⟩
section
variable {P:Program}{w:World}{K:W.Frag}{mg:Str→Option Value}{base:Heap}{A:dq}
theorem RD (T:Txt K mg A):aN P w K mg base dR 8 A.sE A.wZ ["_law_script","_law_kinds_here"] (ajA A K):=by
 have du:=lY (P:=P) (w:=w) (base:=base) T
 have mj:=tG (P:=P) (w:=w) (base:=base) T
 have pC:=vm (P:=P) (w:=w) (base:=base) T
 refine T.TV.ok pY (fun vs H Q E h=>?_) (fun cdv A0 outer s H vs Q E hr h=>?_)
 · obtain⟨a,l,ns,ks,rfl,_⟩:=h
   rfl
 obtain⟨a,l,ns,ks,rfl,⟨⟨xs,hl,hp⟩,Vz,hG,vO⟩,q⟩:=h
 refine⟨_,(zD (zS (i:=2) pY.nd rfl ‹0› (zP yN (zO du ‹hr› rfl T.fJ T.fH T.fG .nil zM (zA (pv 0) (zA zH zC))) (zP rF zH zH)))
     (zD (yF (zV xP (zP yN (pv 2) zH) zH (yD _)) (zF (zR (yL (zA mq (zA (yM zC) zC))))) zU)
     (zD (zS (i:=3) pY.nd rfl ‹0› (zO mj ‹hr› rfl T.uQ T.uP T.uO .nil zM (zA (pv 0) (zA (zP m5 (pv 2) zH) zC))))
     (zD (zS (i:=4) pY.nd rfl ‹0› (zO pC ‹hr› rfl T.xq T.xn T.xm .nil zM (zA (pv 1) (zA (pv 0) (zA (pv 3) zC)))))
     (zD (yF (zV xP (pv 4) zQ (yD _)) (zF (zR (yL (zA (pv 3) (zA (yM zC) zC))))) zU)
     (zD (yF (zV nG (pv 4) (yM (zA zQ (zA zQ zC))) (by rfl)) (zF (zR (yL (zA (pv 3) (zA (yM (zA (yL (zA zQ (zA (pv 3) zC))) zC)) zC))))) zU)
     (zF (zR (yL (zA (pv 3) (zA (yM (zA (yL (zA zQ (zA (pv 3) zC))) zC)) zC))))))))))),?_⟩
 have hS:=vO _ (az.refl _)
 refine⟨_,rfl,a,ns,3,rfl,hS.1,by decide,hS.2.1,hS.2.2,_,_,rfl,rfl,⟨by decide,by decide⟩,_,_,rfl,rfl,(show (0:Int)<10 ^ 40 by decide),?_⟩
 dsimp only [bC,List.set_cons_succ,List.set_cons_zero]
 obtain⟨b0,b1⟩:=ajB ns
 unfold RW eaI at q
 generalize hc:cE ns=c at q b0 b1
 rw [show (aq ns 3 % 10 ^ Int.toNat 40:Int)=c from hc]
 have hp4:=p40
 refine⟨_,rfl,_,_,rfl,rfl,(by show (0:Int)<2;decide),rfl,_,rfl,jY (fun e=>?_) (fun e=>?_)⟩
 · have e:c % 2=0:=V.int.inj (of_decide_eq_true e)
   rw [if_pos e] at q
   refine⟨(by show 0≤sizeLine;decide),fun l1 hl1=>⟨(by show 2≤sizeLine;decide),fun t ht=>?_⟩⟩
   have s1:=zG hl1 (.lst [])
   have s2:=zG ht (.tup [.non,.ref l1])
   exact q t l1 _ (s1.trans s2) zB ⟨[],s2 _ _ zB,.nil⟩
 have e:¬ c % 2=0:=fun z=>e (decide_eq_true (congrArg V.int z))
 rw [if_neg e] at q
 refine⟨_,rfl,_,rfl,_,_,rfl,rfl,⟨by decide,by decide⟩,a,ns,c / 2,rfl,hS,by omega,by omega,?_⟩
 dsimp only [bC,List.set_cons_succ,List.set_cons_zero]
 have hi:∀ j,iz (c / 2)=some j→j<26:=fun j h=>VB h
 generalize iz (c / 2)=i at q hi
 refine⟨_,rfl,_,rfl,_,rfl,l,a,ns,xs,ks,i,rfl,hl,hp,Vz,hG,hS,vO,hi,fun H1 s1=>?_⟩
 dsimp only [bC,List.set_cons_succ,List.set_cons_zero]
 have q:∀ t p H',az H H'→H' t=some (.tup [nv (some (lN ns i)),.ref p])→FsR H' p (RC ns ks i)→Q (.ref t) H':=q
 unfold RC at q
 generalize tD ks i=z at q
 refine⟨_,rfl,rfl,_,rfl,jY (fun e=>?_) (fun e=>?_)⟩
 · have e:z=jW:=V.str.inj (of_decide_eq_true e)
   rw [if_pos e] at q
   refine⟨_,rfl,(by show 0≤sizeLine;decide),fun l1 hl1=>⟨(by show 2≤sizeLine;decide),fun t ht=>?_⟩⟩
   have s2:=zG hl1 (.lst [])
   have s3:=zG ht (.tup [.str (lN ns i),.ref l1])
   exact q t l1 _ (s1.trans (s2.trans s3)) zB ⟨[],s3 _ _ zB,.nil⟩
 have e:¬ z=jW:=fun h=>e (decide_eq_true (congrArg V.str h))
 rw [if_neg e] at q
 refine⟨_,rfl,(by show 2≤sizeLine;decide),fun l1 hl1=>?_⟩
 have s2:=zG hl1 (.lst (zW2.map V.str))
 have h2:(upd H1 l1 (.lst (zW2.map V.str))) l1=some (.lst (zW2.map V.str)):=zB
 refine⟨l1,_,rfl,.inl (cB.of h2),rfl,lC zW2,_,rfl,?_⟩
 show if inV (.str z) (zW2.map V.str)=true then _ else _
 rw [rn]
 refine jY (fun e=>?_) (fun e=>?_)
 · rw [if_pos (of_decide_eq_true e)] at q
   refine⟨_,rfl,_,rfl,(by show 2≤sizeLine;decide),fun t1 ht1=>⟨(by show 1≤sizeLine;decide),fun l2 hl2=>⟨(by show 2≤sizeLine;decide),fun t ht=>?_⟩⟩⟩
   have s3:=zG ht1 (.tup (Vt (some (false,lN ns i))))
   have s4:=zG hl2 (.lst [.ref t1])
   have s5:=zG ht (.tup [.str (lN ns i),.ref l2])
   exact q t l2 _ (s1.trans (s2.trans (s3.trans (s4.trans s5)))) zB ⟨_,s5 _ _ zB,.cons ⟨t1,rfl,(s4.trans s5) _ _ zB⟩ .nil⟩
 · rw [if_neg (fun h=>e (decide_eq_true h))] at q
   refine⟨_,rfl,_,rfl,(by show 2≤sizeLine;decide),fun t1 ht1=>⟨(by show 1≤sizeLine;decide),fun l2 hl2=>⟨(by show 2≤sizeLine;decide),fun t ht=>?_⟩⟩⟩
   have s3:=zG ht1 (.tup (Vt (some (true,lN ns i))))
   have s4:=zG hl2 (.lst [.ref t1])
   have s5:=zG ht (.tup [.str (lN ns i),.ref l2])
   exact q t l2 _ (s1.trans (s2.trans (s3.trans (s4.trans s5)))) zB ⟨_,s5 _ _ zB,.cons ⟨t1,rfl,(s4.trans s5) _ _ zB⟩ .nil⟩
end
def cP (ns:List Int) (k:Nat):Int:=aq ns (13+k) % 10 ^ 40
theorem ajC (ns:List Int) (k:Nat):0≤cP ns k∧cP ns k<10 ^ 40:=⟨Int.emod_nonneg _ (by decide),Int.emod_lt_of_pos _ (by decide)⟩
def RG (ns:List Int) (ks:List Kx) (ps:List Part) (c:Int):Option Str:=if tD ks (iz c)=nD∨some (lN ns (iz c))∈ps.map (·.2) then none else some (lN ns (iz c))
def Ut (ns:List Int) (ks:List Kx) (ps:List Part) (c:Int):List Flt:=match RG ns ks ps c with
 | none=>[]
 | some z=>if tD ks (iz c)=tu then [(false,z)] else if tD ks (iz c)=j0 then [(true,z)] else []
def ptS (ns:List Int) (ks:List Kx) (ps:List Part) (c:Int):Part:=(1+c / 8 % 10 ^ 18,RG ns ks ps c)
def wJ (ns:List Int) (ks:List Kx):Nat→List Part
 | 0=>[]
 | k+1=>wJ ns ks k++[ptS ns ks (wJ ns ks k) (cP ns k)]
def RX (ns:List Int) (ks:List Kx):Nat→List Flt
 | 0=>[]
 | k+1=>RX ns ks k++Ut ns ks (wJ ns ks k) (cP ns k)
theorem Pg (ns:List Int) (ks:List Kx):∀ k,(wJ ns ks k).length=k
 | 0=>rfl
 | k+1=>by show (wJ ns ks k++[_]).length=_;rw [List.length_append,Pg ns ks k];rfl
theorem acO (ns:List Int) (ks:List Kx) (ps:List Part) (c:Int):(Ut ns ks ps c).length≤1:=by
 unfold Ut
 split
 · exact Nat.zero_le 1
 · split
   · exact Nat.le_refl 1
   · split
     · exact Nat.le_refl 1
     · exact Nat.zero_le 1
theorem Ph (ns:List Int) (ks:List Kx):∀ k,(RX ns ks k).length≤k
 | 0=>Nat.le_refl 0
 | k+1=>by
   show (RX ns ks k++_).length≤_
   rw [List.length_append]
   have:=Ph ns ks k
   have:=acO ns ks (wJ ns ks k) (cP ns k)
   omega
def nP (ns:List Int):Nat:=(1+aq ns 12 % 3).toNat
theorem aaV (ns:List Int):1≤nP ns∧nP ns≤3:=by
 unfold nP
 have:=Int.emod_nonneg (aq ns 12) (show (3:Int)≠0 by decide)
 have:=Int.emod_lt_of_pos (aq ns 12) (show (0:Int)<3 by decide)
 omega
theorem W7.lk {H H':Hp} (s:Lk H H') {x:V}{p:Part} (h:W7 H x p):W7 H' x p:=by
 obtain⟨a,e,h1⟩:=h
 exact⟨a,e,s _ _ h1 (by intro z e;cases e)⟩
theorem vp {H G:Hp} (s:az H G) {l:Addr} (n:H l=none) (o:HO):az H (upd G l o):=fun b u hb=>by rw [zL (zI hb n)];exact s b u hb
theorem afw (z:Str) (ws:List (Option Str)):inV (.str z) (ws.map nv)=decide (some z∈ws):=by
 unfold inV
 rw [List.any_map,Bool.eq_iff_iff,List.any_eq_true,decide_eq_true_iff]
 constructor
 · rintro ⟨y,hy,e⟩
   cases y with
   | none=>cases e
   | some y =>
     have:y=z:=eq_of_beq e
     rw [← this];exact hy
 · intro h;exact⟨some z,h,by show (z == z)=true;exact beq_self_eq_true z⟩
theorem acP (ws:List (Option Str)):(ws.map nv).all iV=true:=List.all_eq_true.mpr fun x hx=>by
 obtain⟨p,_,rfl⟩:=List.mem_map.mp hx
 cases p <;> rfl
def ajD (A:dq) (K:W.Frag):Sp:=fun vs H Q _=>∃ (a l:Addr) (ns:List Int) (ks:List Kx),vs=[.ref a,.ref l]∧KsR A K H l a ns ks∧∀ t lp ld H',H lp=none→az H H'→H' t=some (.tup [.ref lp,.ref ld])→PsR H' lp (wJ ns ks (nP ns))→FsR H' ld (RX ns ks (nP ns))→Q (.ref t) H'
section
variable {P:Program}{w:World}{K:W.Frag}{mg:Str→Option Value}{base:Heap}{A:dq}
theorem Pj (T:Txt K mg A):aN P w K mg base dR 8 A.pO A.uH ["_law_script","_law_kinds_here"] (ajD A K):=by
 have du:=lY (P:=P) (w:=w) (base:=base) T
 have mj:=tG (P:=P) (w:=w) (base:=base) T
 have pC:=vm (P:=P) (w:=w) (base:=base) T
 refine T.Q5.ok fY (fun vs H Q E h=>?_) (fun cdv A0 outer s H vs Q E hr h=>?_)
 · obtain⟨a,l,ns,ks,rfl,_⟩:=h
   rfl
 obtain⟨a,l,ns,ks,rfl,hKs,q⟩:=h
 have vO:=hKs.2.2.2
 refine⟨_,(zD (zS (i:=2) fY.nd rfl ‹0› (yM zC))
     (zD (zS (i:=3) fY.nd rfl ‹0› (yM zC))
     (zD (yT PassesOwn.never rfl (vC rfl T.GQ (zA (zP xO zH (zP yN (zO du ‹hr› rfl T.fJ T.fH T.fG .nil zM (zA (pv 0) (zA zH zC))) zH)) zC)) (zX (i:=4) fY.nd rfl ‹0›) (zD (zS (i:=5) fY.nd rfl ‹0› (zP yN (zO du ‹hr› rfl T.fJ T.fH T.fG .nil zM (zA (pv 0) (zA (zP xO zH (pv 4)) zC))) (zP rF zH zH)))
     (zD (zS (i:=6) fY.nd rfl ‹0› (zO mj ‹hr› rfl T.uQ T.uP T.uO .nil zM (zA (pv 0) (zA (pv 5) zC))))
     (zD (zS (i:=7) fY.nd rfl ‹0› (zO pC ‹hr› rfl T.xq T.xn T.xm .nil zM (zA (pv 1) (zA (pv 0) (zA (pv 6) zC)))))
     (zD (yF (PW.pt (acY (zV xP (pv 7) zQ (yD _)) (Xz (zV nG (pv 6) (nQ (xJ (xA (x:="_law_times") (M:=["_law_script","_law_kinds_here","_law_parts_here","_law_due_here","_law_k","_law_cell_here","_law_name_here","_law_what_here"]) rfl (by rfl)) (by rfl) (by symm)) rfl (yO (pv 2)) (fun _ _ _ _=>lU) (fun _ _ _ _=>(pv 1))) (by rfl))))) (zF (zS (i:=6) fY.nd rfl ‹0› mq)) (zF (yF (zV xP (pv 7) zQ (yD _)) (zF (yK (uw PySem.F.plainAttrs_list PySem.F.slot_list_append PySem.F.type_list_append nH (pv 3) (zA (yL (zA zQ (zA (pv 6) zC))) zC)))) (zF (yF (zV xP (pv 7) zQ (yD _)) (zF (yK (uw PySem.F.plainAttrs_list PySem.F.slot_list_append PySem.F.type_list_append nH (pv 3) (zA (yL (zA zQ (zA (pv 6) zC))) zC)))) zU)))))
     (zF (yK (uw PySem.F.plainAttrs_list PySem.F.slot_list_append PySem.F.type_list_append nH (pv 2) (zA (yL (zA (zP xO zH (zP yN (zP m5 (pv 5) zH) (zP rF zH zH))) (zA (pv 6) zC))) zC)))))))))
     (zF (zR (yL (zA (pv 2) (zA (pv 3) zC)))))))),?_⟩
 refine⟨(by show 0≤sizeLine;decide),fun lp hlp=>?_⟩
 have s1:=zG hlp (.lst [])
 dsimp only [bC,List.set_cons_succ,List.set_cons_zero]
 refine⟨(by show 0≤sizeLine;decide),fun ld hld=>?_⟩
 obtain⟨nld,awk⟩:=lZ hld
 have s2:=s1.trans (zG hld (.lst []))
 have e1:=zG hld (.lst []) _ _ (zB (H:=H) (a:=lp) (o:=.lst []))
 have e2:(upd (upd H lp (.lst [])) ld (.lst [])) ld=some (.lst []):=zB
 dsimp only [bC,List.set_cons_succ,List.set_cons_zero]
 generalize upd (upd H lp (.lst [])) ld (.lst [])=H0 at s2 e1 e2
 have hS:=vO _ s2
 refine⟨_,rfl,a,ns,12,rfl,hS.1,by decide,hS.2.1,hS.2.2,_,_,rfl,rfl,(show (0:Int)<3 by decide),_,_,rfl,rfl,_,rfl,?_⟩
 have m0:=Int.emod_nonneg (aq ns 12) (show (3:Int)≠0 by decide)
 have m1:=Int.emod_lt_of_pos (aq ns 12) (show (0:Int)<3 by decide)
 refine⟨by omega,by omega,?_⟩
 have n3:=aaV ns
 refine rK (n:=nP ns) (fun k σ G=>∃ u4 u5 u6 u7 xs ys,σ=[some (.ref a),some (.ref l),some (.ref lp),some (.ref ld),u4,u5,u6,u7]∧az H G∧G lp=some (.lst xs)∧Paired (W7 G) xs (wJ ns ks k)∧G ld=some (.lst ys)∧Paired (fun x f=>O6 G x (some f)) ys (RX ns ks k)) ⟨_,_,_,_,[],[],rfl,s2,e1,.nil,e2,.nil⟩ (fun k σ G hk hw=>?_) (fun σ G hw=>?_)
 rotate_left
 · obtain⟨u4,u5,u6,u7,xs,ys,rfl,sG,h1,h2,h3,h4⟩:=hw
   refine⟨_,rfl,_,rfl,(by show 2≤sizeLine;decide),fun t ht=>?_⟩
   have s3:=zG ht (.tup [.ref lp,.ref ld])
   exact q t lp ld _ hlp (sG.trans s3) zB ⟨xs,s3 _ _ h1,zJ h2 fun _ _ r=>r.lk (.of s3)⟩ ⟨ys,s3 _ _ h3,zJ h4 fun _ _ r=>r.lk (.of s3)⟩
 obtain⟨u4,u5,u6,u7,xs,ys,rfl,sG,h1,h2,h3,h4⟩:=hw
 have hSG:=vO _ sG
 have lx:xs.length=k:=by rw [zK h2,Pg]
 have ly:ys.length≤k:=by rw [zK h4];exact Ph ns ks k
 show abA _ _ _ _ _
 refine⟨_,rfl,_,rfl,_,_,rfl,rfl,a,ns,13+k,(by dsimp only;rw [show (13:Int)+(0+(k:Int))=((13+k:Nat):Int) by omega];rfl),hSG.1,by omega,hSG.2.1,hSG.2.2,_,_,rfl,rfl,⟨by decide,by decide⟩,_,_,rfl,rfl,(show (0:Int)<10 ^ 40 by decide),?_⟩
 dsimp only [bC,List.set_cons_succ,List.set_cons_zero]
 have awl:wJ ns ks (k+1)=wJ ns ks k++[ptS ns ks (wJ ns ks k) (cP ns k)]:=rfl
 have awm:RX ns ks (k+1)=RX ns ks k++Ut ns ks (wJ ns ks k) (cP ns k):=rfl
 rw [awl,awm]
 obtain⟨b0,b1⟩:=ajC ns k
 generalize hc:cP ns k=c at b0 b1
 rw [show (aq ns (13+k) % 10 ^ Int.toNat 40:Int)=c from hc]
 generalize wJ ns ks k=ps at h2
 generalize RX ns ks k=ds at h4
 have hp4:=p40
 refine⟨_,rfl,_,rfl,a,ns,c,rfl,hSG,b0,b1,?_⟩
 dsimp only [bC,List.set_cons_succ,List.set_cons_zero]
 have hi:∀ j,iz c=some j→j<26:=fun j h=>VB h
 obtain⟨⟨kx,hl,hp⟩,Vz,hG,_⟩:=hKs.same sG
 refine⟨_,rfl,_,rfl,_,rfl,l,a,ns,kx,ks,iz c,rfl,hl,hp,Vz,hG,hSG,fun H' s=>vO _ (sG.trans s),hi,fun G1 s3=>?_⟩
 dsimp only [bC,List.set_cons_succ,List.set_cons_zero]
 have sG1:=sG.trans s3
 have h1:=s3 _ _ h1
 have h2:=zJ h2 fun _ _ r=>W7.lk (.of s3) r
 have h3:=s3 _ _ h3
 have h4:=zJ h4 fun _ _ r=>O6.lk (.of s3) r
 clear s3 hl hp
 refine yU (fun σ' G2=>∃ ys2,σ'=[some (.ref a),some (.ref l),some (.ref lp),some (.ref ld),some (.int (0+(k:Int))),some (.int c),some (nv (RG ns ks ps c)),some (.str (tD ks (iz c)))]∧az H G2∧G2 lp=some (.lst xs)∧Paired (W7 G2) xs ps∧G2 ld=some (.lst ys2)∧Paired (fun x f=>O6 G2 x (some f)) ys2 (ds++Ut ns ks ps c)) (fun σ' G2 hR=>?_) (fun _ Ni=>?_)
 · obtain⟨ys2,rfl,sG2,g1,g2,g3,g4⟩:=hR
   refine⟨_,rfl,.inl ⟨rfl,_,cB.of g1⟩,_,rfl,_,_,rfl,rfl,⟨by decide,by decide⟩,_,_,rfl,rfl,⟨by decide,by decide⟩,_,_,rfl,rfl,(show (0:Int)<10 ^ 18 by decide),_,_,rfl,rfl,_,rfl,(by show 2≤sizeLine;decide),fun t ht=>?_⟩
   have s4:=zG ht (.tup [.int (1+c / 8 % 10 ^ 18),nv (RG ns ks ps c)])
   have ht4:(upd G2 t (.tup [.int (1+c / 8 % 10 ^ 18),nv (RG ns ks ps c)])) t=some (.tup [.int (1+c / 8 % 10 ^ 18),nv (RG ns ks ps c)]):=zB
   refine⟨lp,_,_,rfl,rfl,s4 _ _ g1,zZ (m:=100) (by omega),?_⟩
   have lk:=(Lk.upd (us:=xs++[.ref t]) (s4 _ _ g1))
   refine⟨_,_,_,_,_,ys2,rfl,vp (sG2.trans s4) hlp _,zB,?_,(by rw [zL nld];exact s4 _ _ g3),?_⟩
   · refine yE (zJ g2 fun _ _ r=>(r.lk (.of s4)).lk lk) (.cons ⟨t,rfl,lk _ _ ht4 (by intro z e;cases e)⟩ .nil)
   · exact zJ g4 fun _ _ r=>(r.lk (.of s4)).lk lk
 · generalize hz:tD ks (iz c)=z at Ni
   generalize hn:lN ns (iz c)=nn at Ni
   have hpn:RG ns ks ps c=if z=nD∨some nn∈ps.map (·.2) then none else some nn:=by unfold RG;rw [hz,hn]
   have awn:z=nD∨some nn∈ps.map (·.2)→RG ns ks ps c=none∧Ut ns ks ps c=[]:=fun h=>by
     have e:RG ns ks ps c=none:=by rw [hpn,if_pos h]
     exact⟨e,by unfold Ut;rw [e]⟩
   have awo:¬ (z=nD∨some nn∈ps.map (·.2))→RG ns ks ps c=some nn∧Ut ns ks ps c=if z=tu then [(false,nn)] else if z=j0 then [(true,nn)] else []:=fun h=>by
     have e:RG ns ks ps c=some nn:=by rw [hpn,if_neg h]
     exact⟨e,by unfold Ut;rw [e,hz]⟩
   have yes:∀ G2,az G1 G2→(z=nD∨some nn∈ps.map (·.2))→∃ ys2,([some (.ref a),some (.ref l),some (.ref lp),some (.ref ld),some (.int (0+(k:Int))),some (.int c),some .non,some (.str z)]:St)=[some (.ref a),some (.ref l),some (.ref lp),some (.ref ld),some (.int (0+(k:Int))),some (.int c),some (nv (RG ns ks ps c)),some (.str z)]∧az H G2∧G2 lp=some (.lst xs)∧Paired (W7 G2) xs ps∧G2 ld=some (.lst ys2)∧Paired (fun x f=>O6 G2 x (some f)) ys2 (ds++Ut ns ks ps c):=fun G2 s h=>by
     obtain⟨e1,e2⟩:=awn h
     refine⟨ys,by rw [e1];rfl,sG1.trans s,s _ _ h1,zJ h2 fun _ _ r=>r.lk (.of s),s _ _ h3,?_⟩
     rw [e2,List.append_nil]
     exact zJ h4 fun _ _ r=>r.lk (.of s)
   refine⟨_,rfl,rfl,_,rfl,jY (fun e=>?_) (fun e=>?_)⟩
   · exact Ni _ _ (yes _ (az.refl _) (.inl (V.str.inj (of_decide_eq_true e))))
   · have e:¬ z=nD:=fun h=>e (decide_eq_true (congrArg V.str h))
     refine⟨_,rfl,_,rfl,lp,rfl,⟨_,cB.of h1⟩,?_⟩
     refine nR (xs:=xs) (zZ (m:=100) (by omega)) (fun i zs G'=>G1=G'∧zs=((ps.take i).map (·.2)).map nv) ⟨rfl,rfl⟩ (fun i zs G' hw=>hw.1 ▸ cB.of h1) (fun i x zs G' hxi _ hw=>?_) (fun zs G' hw p2 hp2=>?_)
     · obtain⟨rfl,rfl⟩:=hw
       obtain⟨p,hpi,t,rfl,ht⟩:=zW h2 hxi
       refine⟨t,_,_,rfl,jJ.of ht,nu ⟨_,rfl,rfl,?_⟩⟩
       rw [yJ hpi,List.map_append,List.map_append];rfl
     · obtain⟨rfl,rfl⟩:=hw
       rw [zK h2,List.take_length]
       have s5:=zG hp2 (.lst ((ps.map (·.2)).map nv))
       refine⟨p2,_,rfl,.inl (cB.of zB),rfl,acP _,_,rfl,?_⟩
       show if inV (.str nn) ((ps.map (·.2)).map nv)=true then _ else _
       rw [afw]
       refine jY (fun c2=>?_) (fun c2=>?_)
       · exact Ni _ _ (yes _ s5 (.inr (of_decide_eq_true c2)))
       · have hno:¬ (z=nD∨some nn∈ps.map (·.2)):=fun h=>h.elim e fun h=>c2 (decide_eq_true h)
         obtain⟨f1,f2⟩:=awo hno
         rw [f1,f2] at Ni
         have h1:=s5 _ _ h1
         have h2:=zJ h2 fun _ _ r=>W7.lk (.of s5) r
         have h3:=s5 _ _ h3
         have h4:=zJ h4 fun _ _ r=>O6.lk (.of s5) r
         have sG1:=sG1.trans s5
         generalize upd G1 p2 (.lst ((ps.map (·.2)).map nv))=G5 at h1 h2 h3 h4 sG1
         have add:∀ b:Bool,∀ t,G5 t=none→∀ u,ds++[(b,nn)]=u→az H (upd (upd G5 t (.tup (Vt (some (b,nn))))) ld (.lst (ys++[.ref t])))∧(upd (upd G5 t (.tup (Vt (some (b,nn))))) ld (.lst (ys++[.ref t]))) lp=some (.lst xs)∧Paired (W7 (upd (upd G5 t (.tup (Vt (some (b,nn))))) ld (.lst (ys++[.ref t])))) xs ps∧(upd (upd G5 t (.tup (Vt (some (b,nn))))) ld (.lst (ys++[.ref t]))) ld=some (.lst (ys++[.ref t]))∧Paired (fun x f=>O6 (upd (upd G5 t (.tup (Vt (some (b,nn))))) ld (.lst (ys++[.ref t]))) x (some f)) (ys++[.ref t]) u:=fun b t ht u eu=>by
           subst eu
           have s6:=zG ht (.tup (Vt (some (b,nn))))
           have ht6:(upd G5 t (.tup (Vt (some (b,nn))))) t=some (.tup (Vt (some (b,nn)))):=zB
           have lk:=Lk.upd (us:=ys++[.ref t]) (s6 _ _ h3)
           exact⟨vp (sG1.trans s6) awk _,(by rw [zL (Ne.symm nld)];exact s6 _ _ h1),zJ h2 fun _ _ r=>(r.lk (.of s6)).lk lk,zB,yE (zJ h4 fun _ _ r=>(r.lk (.of s6)).lk lk) (.cons ⟨t,rfl,lk _ _ ht6 (by intro z e;cases e)⟩ .nil)⟩
         refine⟨_,rfl,rfl,_,rfl,jY (fun e3=>?_) (fun e3=>?_)⟩
         · have e3:z=tu:=V.str.inj (of_decide_eq_true e3)
           rw [if_pos e3] at Ni
           refine⟨_,rfl,.inl ⟨rfl,_,cB.of h3⟩,_,rfl,(by show 2≤sizeLine;decide),fun t ht=>?_⟩
           refine⟨ld,_,_,rfl,rfl,zG ht _ _ _ h3,zZ (m:=100) (by omega),?_⟩
           exact Ni _ _ ⟨_,rfl,add false t ht _ rfl⟩
         have e3:¬ z=tu:=fun h=>e3 (decide_eq_true (congrArg V.str h))
         rw [if_neg e3] at Ni
         refine⟨_,rfl,rfl,_,rfl,jY (fun e4=>?_) (fun e4=>?_)⟩
         · have e4:z=j0:=V.str.inj (of_decide_eq_true e4)
           rw [if_pos e4] at Ni
           refine⟨_,rfl,.inl ⟨rfl,_,cB.of h3⟩,_,rfl,(by show 2≤sizeLine;decide),fun t ht=>?_⟩
           refine⟨ld,_,_,rfl,rfl,zG ht _ _ _ h3,zZ (m:=100) (by omega),?_⟩
           exact Ni _ _ ⟨_,rfl,add true t ht _ rfl⟩
         have e4:¬ z=j0:=fun h=>e4 (decide_eq_true (congrArg V.str h))
         rw [if_neg e4] at Ni
         exact Ni _ _ ⟨ys,rfl,sG1,h1,h2,h3,by rw [List.append_nil];exact h4⟩
end
def asks (ks:List Kx):List Nat:=(List.range ks.length).filter fun k=>(ks[k]?.map Bd).getD false
theorem aaW (ns:List Int):∃ k0 k1 k2 k3 k4 q,kL ns=[k0,k1,k2,k3,k4]∧q<5∧(kL ns)[q]? = some .yn∧asks (kL ns)=[q]:=by
 have h:=aaO ns
 rcases (by omega:GZ ns=0∨GZ ns=1∨GZ ns=2∨GZ ns=3∨GZ ns=4) with e | e | e | e | e
 · exact⟨_,_,_,_,_,0,(by unfold kL;rw [e];rfl),by decide,(by unfold kL;rw [e];rfl),(by unfold kL;rw [e];rfl)⟩
 · exact⟨_,_,_,_,_,4,(by unfold kL;rw [e];rfl),by decide,(by unfold kL;rw [e];rfl),(by unfold kL;rw [e];rfl)⟩
 · exact⟨_,_,_,_,_,3,(by unfold kL;rw [e];rfl),by decide,(by unfold kL;rw [e];rfl),(by unfold kL;rw [e];rfl)⟩
 · exact⟨_,_,_,_,_,2,(by unfold kL;rw [e];rfl),by decide,(by unfold kL;rw [e];rfl),(by unfold kL;rw [e];rfl)⟩
 · exact⟨_,_,_,_,_,1,(by unfold kL;rw [e];rfl),by decide,(by unfold kL;rw [e];rfl),(by unfold kL;rw [e];rfl)⟩
theorem afx {ns:List Int}{x:Kx} (h:x∈kL ns):x∈kB ns:=by
 unfold kL at h
 rcases List.mem_append.mp h with h | h
 · exact List.mem_of_mem_drop h
 · exact List.mem_of_mem_take h
theorem afy (ns:List Int):(Uq ns).natAbs≤10 ^ 18:=by
 unfold Uq
 have:=Int.emod_nonneg (aq ns 1) (show (2*10 ^ 18:Int)≠0 by decide)
 have:=Int.emod_lt_of_pos (aq ns 1) (show (0:Int)<2*10 ^ 18 by decide)
 omega
theorem ajF {ns:List Int}{x:Kx} (h:x∈kL ns):x.G∧∀ ws,x=.pk ws→ws=PJ ns:=by
 have hl:=afy ns
 have b60:(10:Nat) ^ 18+1000<10 ^ 60:=by symm
 have h:=afx h
 unfold kB at h
 simp only [List.mem_cons,List.not_mem_nil,or_false] at h
 rcases h with rfl | rfl | rfl | rfl | rfl
 · exact⟨trivial,fun ws e=>by cases e⟩
 · exact⟨⟨by omega,by omega⟩,fun ws e=>by cases e⟩
 · exact⟨⟨by omega,by omega⟩,fun ws e=>by cases e⟩
 · refine⟨⟨?_,?_⟩,fun ws e=>by cases e;rfl⟩
   · have z0:‹" "›.length=1:=by symm
     have z1:Xj.length=3:=by symm
     have z2:yp.length=3:=by symm
     have z3:=O1 (aq ns 0) 0
     rw [Qn,uy]
     show (cd Xj++cd ‹" "› ++ (cd yp++cd ‹" "› ++ cd (fj (aq ns 0) 0))).length≤500
     rw [List.length_append,List.length_append,List.length_append,List.length_append,← xS,← xS,← xS,← xS]
     omega
   · have z0:‹" "›.length=1:=by symm
     have z1:Xj.length=3:=by symm
     have z2:yp.length=3:=by symm
     have z3:=O1 (aq ns 0) 0
     show Xj.length+(yp.length+((fj (aq ns 0) 0).length+0))+3 * ‹" "›.length≤16777216
     omega
 · exact⟨(by show (4:Int).natAbs<10 ^ 60;decide +kernel),fun ws e=>by cases e⟩
def Ix (i:Option Nat):Prop:=∀ j,i=some j→j<5∨j=10∨j=12∨j=13∨j=14
theorem tH (c:Int):Ix (iz c):=fun j h=>by
 unfold iz at h
 have m0:=Int.emod_nonneg c (show (8:Int)≠0 by decide)
 have m1:=Int.emod_lt_of_pos c (show (0:Int)<8 by decide)
 have n1:=Int.emod_lt_of_pos (c / 8) (show (0:Int)<3 by decide)
 split at h
 · cases h;exact .inr (.inl rfl)
 · split at h
   · cases h
   · split at h <;> (cases h;omega)
theorem Ix.lt {i:Option Nat} (h:Ix i):∀ j,i=some j→j<26:=fun j e=>by have:=h j e;omega
def mW (p:Int) (ks:List Kx):List Rw:=ks.mapIdx fun k x=>⟨fj p k,some x,none⟩
def sh1 (ns:List Int) (ks:List Kx) (q:Nat):Sh:=⟨fj (aq ns 0) 12,none,mW (aq ns 0) ks++[⟨fj (aq ns 0) 14,none,some (.c (.is (fj (aq ns 0) q) Uc))⟩],[]⟩
def sh2 (ns:List Int) (kd:Option Kx) (sy:Sy) (ld:At):Sh:=⟨fj (aq ns 0) 13,(eaI ns).map (lN ns),[⟨fj (aq ns 0) 11,kd,some sy⟩],[(zE,some (.c ld))]⟩
def PL (ns:List Int) (ks:List Kx) (q:Nat) (kd:Option Kx) (sy:Sy) (ld:At):List Sh:=[sh1 ns ks q,sh2 ns kd sy ld]
def tsP (ns:List Int) (ks:List Kx):List rD:=[(fj (aq ns 0) 10,wJ ns ks (nP ns))]
section
variable {ns:List Int}{ks:List Kx}{q:Nat}{kd:Option Kx}{sy:Sy}{ld:At}
theorem ajH {k0 k1 k2 k3 k4:Kx} (hk:ks=[k0,k1,k2,k3,k4]) {i:Option Nat} (hi:Ix i):Vu (allR (PL ns ks q kd sy ld)) (lN ns i)=i.bind fun k=>ks[k]?:=by
 subst hk
 have e:allR (PL ns [k0,k1,k2,k3,k4] q kd sy ld)=([⟨fj (aq ns 0) 0,some k0,none⟩,⟨fj (aq ns 0) 1,some k1,none⟩,⟨fj (aq ns 0) 2,some k2,none⟩,⟨fj (aq ns 0) 3,some k3,none⟩,⟨fj (aq ns 0) 4,some k4,none⟩,⟨fj (aq ns 0) 14,none,some (.c (.is (fj (aq ns 0) q) Uc))⟩]:List Rw)++[⟨fj (aq ns 0) 11,kd,some sy⟩]:=rfl
 rw [e,JM]
 have h11:lN ns i≠fj (aq ns 0) 11:=fun z=>by
   have:=(tE ns hi.lt (by decide)).mp z
   have:=hi 11 this
   omega
 have e1:∀ g:Str→Option Kx,kfS g ⟨fj (aq ns 0) 11,kd,some sy⟩ (lN ns i)=g (lN ns i):=fun g=>by
   unfold kfS
   cases kd with
   | none=>rfl
   | some x=>exact if_neg h11
 rw [e1]
 show (if lN ns i=fj (aq ns 0) 4 then some k4 else if lN ns i=fj (aq ns 0) 3 then some k3 else if lN ns i=fj (aq ns 0) 2 then some k2 else if lN ns i=fj (aq ns 0) 1 then some k1 else if lN ns i=fj (aq ns 0) 0 then some k0 else none)=_
 have hh:∀ k,k<26→(lN ns i=fj (aq ns 0) k↔i=some k):=fun k h=>tE ns hi.lt h
 simp only [hh 0 (by decide),hh 1 (by decide),hh 2 (by decide),hh 3 (by decide),hh 4 (by decide)]
 cases i with
 | none=>rfl
 | some j =>
   have:=hi j rfl
   rcases (by omega:j=0∨j=1∨j=2∨j=3∨j=4∨j=10∨j=12∨j=13∨j=14) with rfl | rfl | rfl | rfl | rfl | rfl | rfl | rfl | rfl <;> rfl
end
theorem Pk (x:Kx):kw x≠tu∧kw x≠nD:=by
 rcases x with _ | ⟨_ | _,_,_⟩ | _ | _ <;> dsimp only [kw] <;> decide +kernel
theorem xF {P:Str→Prop} [∀ s,Decidable (P s)] (s:Str) {b:Bool} (h:decide (P s)=b) {y:Str} (e:y=s):decide (P y)=b:=by rw [e];exact h
theorem aaX (x:Kx):decide (kw x=jW)=isNm x:=by
 rcases x with _ | ⟨_ | _,_,_⟩ | _ | _
 · exact xF (P:=fun s=>s=jW) ‹"yesno"› (b:=false) (by symm) rfl
 · exact xF (P:=fun s=>s=jW) ‹"whole"› (b:=false) (by symm) rfl
 · exact xF (P:=fun s=>s=jW) ‹"money"› (b:=false) (by symm) rfl
 · exact xF (P:=fun s=>s=jW) ‹"names"› (b:=true) (by symm) rfl
 · exact xF (P:=fun s=>s=jW) ‹"pick"› (b:=false) (by symm) rfl
theorem VD (x:Kx):decide (kw x=j0)=aau x:=by
 rcases x with _ | ⟨_ | _,_,_⟩ | _ | _
 · exact xF (P:=fun s=>s=j0) ‹"yesno"› (b:=false) (by symm) rfl
 · exact xF (P:=fun s=>s=j0) ‹"whole"› (b:=false) (by symm) rfl
 · exact xF (P:=fun s=>s=j0) ‹"money"› (b:=false) (by symm) rfl
 · exact xF (P:=fun s=>s=j0) ‹"names"› (b:=false) (by symm) rfl
 · exact xF (P:=fun s=>s=j0) ‹"pick"› (b:=true) (by symm) rfl
theorem RJ (x:Kx):decide (kw x=fU)=Bd x:=by
 rcases x with _ | ⟨_ | _,_,_⟩ | _ | _
 · exact xF (P:=fun s=>s=fU) ‹"yesno"› (b:=true) (by symm) rfl
 · exact xF (P:=fun s=>s=fU) ‹"whole"› (b:=false) (by symm) rfl
 · exact xF (P:=fun s=>s=fU) ‹"money"› (b:=false) (by symm) rfl
 · exact xF (P:=fun s=>s=fU) ‹"names"› (b:=false) (by symm) rfl
 · exact xF (P:=fun s=>s=fU) ‹"pick"› (b:=false) (by symm) rfl
theorem ajI (x:Kx):decide (kw x∈Ur)=Ud (some x):=by
 rcases x with _ | ⟨_ | _,_,_⟩ | _ | _
 · exact xF (P:=fun s=>s∈Ur) ‹"yesno"› (b:=false) (by symm) rfl
 · exact xF (P:=fun s=>s∈Ur) ‹"whole"› (b:=true) (by symm) rfl
 · exact xF (P:=fun s=>s∈Ur) ‹"money"› (b:=true) (by symm) rfl
 · exact xF (P:=fun s=>s∈Ur) ‹"names"› (b:=true) (by symm) rfl
 · exact xF (P:=fun s=>s∈Ur) ‹"pick"› (b:=false) (by symm) rfl
theorem afA:nD≠tu:=by symm
theorem afB:nD∈Ur:=by symm
theorem aaY:nD≠j0:=by symm
theorem Xl:nD≠fU:=by symm
theorem Nk:nD≠jW:=by symm
theorem Nm:tu≠jW:=by symm
theorem Bh (ks:List Kx) (hk:ks.length=5) (i:Option Nat):(∃ k x,i=some k∧ks[k]? = some x∧tD ks i=kw x)∨(i=some 10∧tD ks i=nD)∨((i.bind fun k=>ks[k]?)=none∧i≠some 10∧tD ks i=tu):=by
 cases i with
 | none=>exact .inr (.inr ⟨rfl,(by intro h;cases h),rfl⟩)
 | some k =>
   cases e:ks[k]? with
   | some x=>exact .inl ⟨k,x,rfl,e,by unfold tD;dsimp only;rw [e]⟩
   | none =>
     by_cases c:k=10
     · subst c
       exact .inr (.inl ⟨rfl,by unfold tD;dsimp only;rw [e];rfl⟩)
     · exact .inr (.inr ⟨e,(by intro h;cases h;exact c rfl),by unfold tD;dsimp only;rw [e];exact if_neg c⟩)
section
variable {ns:List Int}{ks:List Kx}{f:Str→Option Kx}{tn:List Str}
theorem aaZ (hk:ks.length=5) (hw:∀ x∈ks,∀ ws,x=.pk ws→ws=PJ ns) {i:Option Nat} (hi:Ix i) (hf:f (lN ns i)=i.bind fun k=>ks[k]?) (ht:tn=[fj (aq ns 0) 10]) {a:At} (ha:a.nm=lN ns i):Py f tn a=Lz ns (tD ks i) a:=by
 unfold Py Lz
 rw [ha,hf]
 have htn:lN ns i∈tn↔i=some 10:=by rw [ht,List.mem_singleton];exact tE ns hi.lt (by decide)
 rcases Bh ks hk i with ⟨k,x,rfl,hx,hz⟩ | ⟨rfl,hz⟩ | ⟨hb,h10,hz⟩
 · have hxm:=List.mem_of_getElem? hx
   rw [hz,if_neg (fun h=>by rw [show ((some k).bind fun k=>ks[k]?)=ks[k]? from rfl,hx] at h;cases h.1),if_neg (Pk x).1]
   have hg:aav f a=gdF ns (kw x) a:=by
     cases a with
     | is z wd =>
       have ha:z=lN ns (some k):=ha
       show isOk wd (f z)=if kw x=j0 then decide (wd∈PJ ns) else decide (kw x=fU) && decide (wd∈Pb)
       rw [ha,hf,show ((some k).bind fun k=>ks[k]?)=ks[k]? from rfl,hx,RJ]
       have hp:=VD x
       cases x with
       | yn=>rw [if_neg (of_decide_eq_false hp)];show decide _=(true && decide _);rw [Bool.true_and];exact decide_eq_decide.mpr (by unfold Pb;simp)
       | wh m lo hi=>rw [if_neg (of_decide_eq_false hp)];rfl
       | nm n=>rw [if_neg (of_decide_eq_false hp)];rfl
       | pk ws=>rw [if_pos (of_decide_eq_true hp)];show decide _=_;rw [hw _ hxm ws rfl]
     | cm z h' n =>
       have ha:z=lN ns (some k):=ha
       show Ud (f z)=decide (kw x∈Ur)
       rw [ha,hf,ajI,← hx];rfl
   rw [hg]
 · have h10:ks[10]? = none:=by rw [List.getElem?_eq_none_iff,hk];decide
   rw [hz,if_neg (fun h=>h.2 (htn.mpr rfl)),if_neg afA]
   have hg:aav f a=gdF ns nD a:=by
     cases a with
     | is z wd =>
       have ha:z=lN ns (some 10):=ha
       show isOk wd (f z)=if nD=j0 then decide (wd∈PJ ns) else decide (nD=fU) && decide (wd∈Pb)
       rw [ha,hf,if_neg aaY,decide_eq_false Xl,show ((some 10).bind fun k=>ks[k]?)=ks[10]? from rfl,h10];rfl
     | cm z h' n =>
       have ha:z=lN ns (some 10):=ha
       show Ud (f z)=decide (nD∈Ur)
       rw [ha,hf,decide_eq_true afB,show ((some 10).bind fun k=>ks[k]?)=ks[10]? from rfl,h10];rfl
   rw [hg]
 · rw [hz,if_pos ⟨hb,fun h=>h10 (htn.mp h)⟩,if_pos rfl]
theorem afC (hk:ks.length=5) {i:Option Nat} (hf:f (lN ns i)=i.bind fun k=>ks[k]?):eaF f (lN ns i)=RC ns ks i:=by
 unfold eaF RC
 rw [hf]
 rcases Bh ks hk i with ⟨k,x,rfl,hx,hz⟩ | ⟨rfl,hz⟩ | ⟨hb,h10,hz⟩
 · rw [hz,show ((some k).bind fun k=>ks[k]?)=ks[k]? from rfl,hx]
   dsimp only
   have hn:=aaX x
   cases c:isNm x with
   | true=>rw [c] at hn;rw [if_pos rfl,if_pos (of_decide_eq_true hn)]
   | false =>
     rw [c] at hn
     rw [if_neg (by decide),if_neg (of_decide_eq_false hn),if_neg]
     intro h
     unfold zW2 at h
     simp only [List.mem_cons,List.not_mem_nil,or_false] at h
     exact h.elim (Pk x).1 (Pk x).2
 · have h10:ks[10]? = none:=by rw [List.getElem?_eq_none_iff,hk];decide
   rw [hz,show ((some 10).bind fun k=>ks[k]?)=ks[10]? from rfl,h10,if_neg Nk,if_pos (by unfold zW2;simp)]
 · rw [hz,hb,if_neg Nm,if_pos (by unfold zW2;simp)]
theorem afD (hk:ks.length=5) (ht:tn=[fj (aq ns 0) 10]) (hf:∀ c:Int,f (lN ns (iz c))=(iz c).bind fun k=>ks[k]?) (ps:List Part) (c:Int):Pz f tn (ptS ns ks ps c)=Ut ns ks ps c:=by
 unfold Pz Ut ptS
 dsimp only
 unfold RG
 have hi:=tH c
 have hf:=hf c
 generalize iz c=i at hi hf
 by_cases h:tD ks i=nD∨some (lN ns i)∈ps.map (·.2)
 · rw [if_pos h]
 · rw [if_neg h]
   dsimp only
   rw [hf]
   rcases Bh ks hk i with ⟨k,x,rfl,hx,hz⟩ | ⟨rfl,hz⟩ | ⟨hb,h10,hz⟩
   · rw [hz,show ((some k).bind fun k=>ks[k]?)=ks[k]? from rfl,hx,if_neg (Pk x).1]
     dsimp only
     have hp:=VD x
     cases c:aau x with
     | true=>rw [c] at hp;rw [if_pos rfl,if_pos (of_decide_eq_true hp)]
     | false=>rw [c] at hp;rw [if_neg (by decide),if_neg (of_decide_eq_false hp)]
   · exact absurd (.inl hz) h
   · rw [hz,hb,if_pos rfl]
     dsimp only
     rw [if_neg]
     rw [ht,List.mem_singleton]
     exact fun e=>h10 ((tE ns hi.lt (by decide)).mp e)
theorem VF (hk:ks.length=5) (ht:tn=[fj (aq ns 0) 10]) (hf:∀ c:Int,f (lN ns (iz c))=(iz c).bind fun k=>ks[k]?):∀ n,Lx f tn (wJ ns ks n)=RX ns ks n
 | 0=>rfl
 | n+1=>by
   show ((wJ ns ks n++[_]).map (Pz f tn)).flatten=RX ns ks n++_
   rw [List.map_append,List.flatten_append,List.map_singleton,List.flatten_singleton,afD hk ht hf]
   congr 1
   exact VF hk ht hf n
end
theorem JT (ns:List Int) (c:Int):(JZ ns c).nm=lN ns (iz c):=by unfold JZ;split <;> rfl
def VG (ns:List Int) (ks:List Kx) (c:Int):List Flt:=Lz ns (tD ks (iz c)) (JZ ns c)
structure LP (ns:List Int) (ks:List Kx) (q:Nat) (sy:Sy) (ld:At) (cs:List Int) (cl:Int):Prop where
 hk:∃ k0 k1 k2 k3 k4,ks=[k0,k1,k2,k3,k4]
 hq:q<5
 hy:ks[q]? = some .yn
 hw:∀ x∈ks,∀ ws,x=.pk ws→ws=PJ ns
 hs:sy.at=cs.map (JZ ns)
 hd:sy.dp≤4
 hc:cs.length≤3
 hl:ld=JZ ns cl
def RK (ns:List Int) (ks:List Kx) (cs:List Int) (cl:Int):List Flt:=RW ns ks++((cs.map (VG ns ks)).flatten++VG ns ks cl)++RX ns ks (nP ns)
section
variable {ns:List Int}{ks:List Kx}{q:Nat}{kd:Option Kx}{sy:Sy}{ld:At}{cs:List Int}{cl:Int}
theorem LP.k5 (L:LP ns ks q sy ld cs cl):ks.length=5:=by obtain⟨k0,k1,k2,k3,k4,h⟩:=L.hk;rw [h];rfl
theorem LP.f (L:LP ns ks q sy ld cs cl) {i:Option Nat} (hi:Ix i):Vu (allR (PL ns ks q kd sy ld)) (lN ns i)=i.bind fun k=>ks[k]?:=by obtain⟨k0,k1,k2,k3,k4,h⟩:=L.hk;exact ajH h hi
theorem LP.at (L:LP ns ks q sy ld cs cl) (c:Int):Py (Vu (allR (PL ns ks q kd sy ld))) [fj (aq ns 0) 10] (JZ ns c)=VG ns ks c:=aaZ L.k5 L.hw (tH c) (L.f (tH c)) rfl (JT ns c)
theorem LP.first (L:LP ns ks q sy ld cs cl):Py (Vu (allR (PL ns ks q kd sy ld))) [fj (aq ns 0) 10] (.is (fj (aq ns 0) q) Uc)=[]:=by
 have hi:Ix (some q):=fun j h=>by cases h;exact .inl L.hq
 rw [aaZ (ns:=ns) (i:=some q) L.k5 L.hw hi (L.f hi) rfl rfl]
 have hz:tD ks (some q)=fU:=by unfold tD;dsimp only;rw [L.hy];rfl
 unfold Lz
 rw [hz,if_neg (show fU≠tu by symm),if_pos]
 show (if fU=j0 then decide (Uc∈PJ ns) else decide (fU=fU) && decide (Uc∈Pb))=true
 rw [if_neg (show fU≠j0 by symm)]
 decide +kernel
theorem LP.fl (L:LP ns ks q sy ld cs cl):flA (PL ns ks q kd sy ld) (tsP ns ks)=RK ns ks cs cl:=by
 have h1:=L.first (kd:=kd)
 have h2:=L.at (kd:=kd)
 have h3:∀ {i:Option Nat},Ix i→_:=fun {i} hi=>L.f (kd:=kd) hi
 unfold flA aaD
 show Ru _ [fj (aq ns 0) 10] (PL ns ks q kd sy ld)++([Lx _ [fj (aq ns 0) 10] (wJ ns ks (nP ns))]).flatten=_
 generalize Vu (allR (PL ns ks q kd sy ld))=f at h1 h2 h3
 have e3:Lx f [fj (aq ns 0) 10] (wJ ns ks (nP ns))=RX ns ks (nP ns):=VF L.k5 rfl (fun c=>h3 (tH c)) _
 rw [List.flatten_singleton,e3]
 unfold RK
 congr 1
 show ([Gn f [fj (aq ns 0) 10] (sh1 ns ks q),Gn f [fj (aq ns 0) 10] (sh2 ns kd sy ld)]).flatten=_
 have e1:Gn f [fj (aq ns 0) 10] (sh1 ns ks q)=[]:=by
   obtain⟨k0,k1,k2,k3,k4,h⟩:=L.hk
   subst h
   show ([Py f [fj (aq ns 0) 10] (.is (fj (aq ns 0) q) Uc)].flatten++[])++[]=[]
   rw [h1];rfl
 rw [e1]
 have e2:Gn f [fj (aq ns 0) 10] (sh2 ns kd sy ld)=RW ns ks++((cs.map (VG ns ks)).flatten++VG ns ks cl):=by
   have ea:Rt f (sh2 ns kd sy ld)=RW ns ks:=by
     show (match (eaI ns).map (lN ns) with | none=>[] | some z=>eaF f z)=_
     unfold RW
     cases e:eaI ns with
     | none=>rfl
     | some i =>
       have hi:Ix i:=by
         unfold eaI at e
         split at e
         · cases e
         · cases e;exact tH _
       exact afC L.k5 (h3 hi)
   show Rt f (sh2 ns kd sy ld)++(((sy.at.map (Py f [fj (aq ns 0) 10])).flatten++[])++([Py f [fj (aq ns 0) 10] ld].flatten++[]))=_
   rw [ea,L.hs,List.map_map,List.append_nil,List.append_nil,List.flatten_singleton,L.hl,h2]
   congr 3
   exact List.map_congr_left fun c _=>h2 c
 rw [e2,List.flatten_cons,List.flatten_singleton,List.nil_append]
end
theorem G6 (ns:List Int) (i:Option Nat):(lN ns i).length≤100:=by
 cases i with
 | none=>show zzz.length≤100;decide +kernel
 | some k=>exact Nat.le_trans (O1 _ _) (by decide)
theorem G7 {ns:List Int}{ks:List Kx}:∀ {n:Nat}{p:Part},p∈wJ ns ks n→∃ c ps,p=ptS ns ks ps c
 | n+1,p,h=>by
   rcases List.mem_append.mp (show p∈wJ ns ks n++[_] from h) with h | h
   · exact G7 h
   · exact⟨_,_,List.mem_singleton.mp h⟩
theorem Uu {ns:List Int}{ks:List Kx}{ps:List Part}{c:Int}{z:Str} (h:(ptS ns ks ps c).2=some z):z=lN ns (iz c)∧tD ks (iz c)≠nD:=by
 have h:RG ns ks ps c=some z:=h
 unfold RG at h
 split at h
 · cases h
 · rename_i e
   cases h
   exact⟨rfl,fun z=>e (.inl z)⟩
theorem VH {ns:List Int}{ks:List Kx} (hk:ks.length=5) {n:Nat}{p:Part} (h:p∈wJ ns ks n) {z:Str} (hz:p.2=some z):z∉[fj (aq ns 0) 10]:=by
 obtain⟨c,ps,rfl⟩:=G7 h
 obtain⟨rfl,hs⟩:=Uu hz
 rw [List.mem_singleton]
 intro e
 have e:=(tE ns (tH c).lt (by decide)).mp e
 rw [e] at hs
 refine hs ?_
 unfold tD
 dsimp only
 rw [show ks[10]? = none by rw [List.getElem?_eq_none_iff,hk];decide]
 rfl
section
variable {ns:List Int}{ks:List Kx}{q:Nat}{kd:Option Kx}{sy:Sy}{ld:At}{cs:List Int}{cl:Int}
theorem Uv (hk:ks.length=5) {i j:Nat}{t:Sh}{r:Rw} (ht:(PL ns ks q kd sy ld)[i]? = some t) (hr:t.rows[j]? = some r):(i=0∧j<5∧r.nm=fj (aq ns 0) j)∨(i=0∧j=5∧r.nm=fj (aq ns 0) 14∧r.kd=none)∨(i=1∧j=0∧r.nm=fj (aq ns 0) 11):=by
 have lr:(mW (aq ns 0) ks).length=5:=by unfold mW;rw [List.length_mapIdx];exact hk
 match i,ht with
 | 0,ht =>
   cases ht
   have hr:(mW (aq ns 0) ks++[⟨fj (aq ns 0) 14,none,some (.c (.is (fj (aq ns 0) q) Uc))⟩])[j]? = some r:=hr
   by_cases c:j<5
   · rw [List.getElem?_append_left (by omega)] at hr
     unfold mW at hr
     rw [List.getElem?_mapIdx] at hr
     obtain⟨x,hx,rfl⟩:=Option.map_eq_some_iff.mp hr
     exact .inl ⟨rfl,c,rfl⟩
   · rw [List.getElem?_append_right (by omega),lr] at hr
     have hj:=(List.getElem?_eq_some_iff.mp hr).1
     have hj:j - 5<1:=hj
     have e:j=5:=by omega
     subst e
     cases hr
     exact .inr (.inl ⟨rfl,rfl,rfl,rfl⟩)
 | 1,ht =>
   cases ht
   have hj:=(List.getElem?_eq_some_iff.mp hr).1
   have hj:j<1:=hj
   have e:j=0:=by omega
   subst e
   cases hr
   exact .inr (.inr ⟨rfl,rfl,rfl⟩)
 | i+2,ht=>cases ht
theorem ajJ (hk:ks.length=5):UQ (PL ns ks q kd sy ld):=fun i j t r i' j' t' r' ht hr ht' hr' e=>by
 have inj:∀ {a b:Nat},a<26→b<26→fj (aq ns 0) a=fj (aq ns 0) b→a=b:=fun ha hb h=>OJ ha hb h
 rcases Uv hk ht hr with ⟨a1,a2,a3⟩ | ⟨a1,a2,a3,_⟩ | ⟨a1,a2,a3⟩ <;> rcases Uv hk ht' hr' with ⟨b1,b2,b3⟩ | ⟨b1,b2,b3,_⟩ | ⟨b1,b2,b3⟩ <;> (rw [a3,b3] at e;have:=inj (by omega) (by omega) e;omega)
theorem VJ (hk:ks.length=5) {k:Nat} (hlt:k<5):Pl (PL ns ks q kd sy ld) (fj (aq ns 0) k) 0 k:=by
 have lr:(mW (aq ns 0) ks).length=5:=by unfold mW;rw [List.length_mapIdx];exact hk
 obtain⟨x,hx⟩:∃ x,ks[k]? = some x:=⟨_,List.getElem?_eq_getElem (by omega)⟩
 refine⟨sh1 ns ks q,⟨fj (aq ns 0) k,some x,none⟩,rfl,?_,rfl,rfl⟩
 show (mW (aq ns 0) ks++[_])[k]? = _
 rw [List.getElem?_append_left (by omega)]
 unfold mW
 rw [List.getElem?_mapIdx,hx];rfl
theorem acQ (hk:ks.length=5):¬ ∃ i j,Pl (PL ns ks q kd sy ld) (fj (aq ns 0) 10) i j:=by
 rintro ⟨i,j,t,r,ht,hr,e,_⟩
 have inj:∀ {a b:Nat},a<26→b<26→fj (aq ns 0) a=fj (aq ns 0) b→a=b:=fun ha hb h=>OJ ha hb h
 rcases Uv hk ht hr with ⟨a1,a2,a3⟩ | ⟨a1,a2,a3,_⟩ | ⟨a1,a2,a3⟩ <;> (rw [a3] at e;have:=inj (by omega) (by omega) e;omega)
theorem ag0:ag (PL ns ks q kd sy ld) 0=false:=rfl
theorem aa0 {s j k:Nat} (h:Nj s j 0 k):rqP (PL ns ks q kd sy ld) s j 0 k:=⟨h,.inr ag0⟩
theorem ajK {s j k:Nat} (h:Nj s j 0 k):rsP (PL ns ks q kd sy ld) s j 0 k:=⟨h,fun z=>by rw [ag0] at z;cases z.2⟩
theorem aa1 {i:Option Nat} (hk:ks.length=5) (h:tD ks i≠tu):(∃ k,k<5∧i=some k)∨i=some 10:=by
 rcases Bh ks hk i with ⟨k,x,rfl,hx,hz⟩ | ⟨rfl,hz⟩ | ⟨hb,h10,hz⟩
 · exact .inl ⟨k,(by have:=(List.getElem?_eq_some_iff.mp hx).1;omega),rfl⟩
 · exact .inr rfl
 · exact absurd hz h
theorem adE (hk:ks.length=5) (hpd:RX ns ks (nP ns)=[]) {c:Int} (hd:VG ns ks c=[]) (j:Nat):afh (PL ns ks q kd sy ld) (tsP ns ks) 1 j (JZ ns c).nm:=by
 rw [JT]
 have hn:tD ks (iz c)≠tu:=fun e=>by
   unfold VG Lz at hd
   rw [if_pos e] at hd
   cases hd
 rcases aa1 hk hn with ⟨k,hlt,e⟩ | e
 · rw [e]
   exact .inl ⟨0,k,VJ hk hlt,aa0 (.inl (by decide))⟩
 · rw [e]
   refine .inr ⟨acQ hk,(fj (aq ns 0) 10,wJ ns ks (nP ns)),rfl,List.mem_singleton.mpr rfl,(fun p hp y hy=>VH hk hp hy),fun p hp y e2=>?_⟩
   have key:∀ n,RX ns ks n=[]→p∈wJ ns ks n→∃ c ps,p=ptS ns ks ps c∧Ut ns ks ps c=[]:=fun n=>by
     induction n with
     | zero=>intro _ h;cases h
     | succ n ih =>
       intro h hp
       have h:RX ns ks n++Ut ns ks (wJ ns ks n) (cP ns n)=[]:=h
       obtain⟨ha,hb⟩:=List.append_eq_nil_iff.mp h
       rcases List.mem_append.mp (show p∈wJ ns ks n++[_] from hp) with hp | hp
       · exact ih ha hp
       · exact⟨_,_,List.mem_singleton.mp hp,hb⟩
   obtain⟨c',ps,rfl,hds⟩:=key _ hpd hp
   obtain⟨rfl,hs⟩:=Uu e2
   have hn':tD ks (iz c')≠tu:=fun e=>by
     unfold Ut at hds
     rw [show RG ns ks ps c'=some (lN ns (iz c')) from e2] at hds
     dsimp only at hds
     rw [if_pos e] at hds
     cases hds
   rcases aa1 hk hn' with ⟨k,hlt,e⟩ | e
   · rw [e]
     exact⟨0,k,VJ hk hlt,ajK (.inl (by decide))⟩
   · refine absurd ?_ hs
     rw [e]
     unfold tD
     dsimp only
     rw [show ks[10]? = none by rw [List.getElem?_eq_none_iff,hk];decide]
     rfl
theorem LP.pap (L:LP ns ks q sy ld cs cl):Pap (PL ns ks q kd sy ld) (tsP ns ks):=by
 have hk:=L.k5
 have hn3:=aaV ns
 have lp:=Pg ns ks (nP ns)
 have hno:=fun {p:Part} (hp:p∈wJ ns ks (nP ns)) {z:Str} (hz:p.2=some z)=>VH hk hp hz
 refine⟨⟨by show 2≤10;decide,?_,by show 1≤100;decide,?_⟩,?_,⟨?_,?_,?_⟩,?_,ajJ hk,⟨?_,?_⟩,?_⟩
 · intro t ht
   rcases List.mem_cons.mp ht with rfl | ht
   · refine⟨?_,by show 0≤10;decide⟩
     show (mW (aq ns 0) ks++[_]).length≤10
     unfold mW
     rw [List.length_append,List.length_mapIdx,hk];show 5+1≤10;decide
   · rw [List.mem_singleton.mp ht]
     exact⟨by show 1≤10;decide,by show 1≤10;decide⟩
 · intro t ht
   rw [List.mem_singleton.mp ht]
   show (wJ ns ks (nP ns)).length≤100
   omega
 · obtain⟨k0,k1,k2,k3,k4,h⟩:=L.hk
   subst h
   show (([12,0,1,2,3,4,14,13,11,10]:List Nat).map (fj (aq ns 0))).Pairwise (· ≠ ·)
   exact List.pairwise_map.mpr (List.Pairwise.imp (fun {a b} h e=>h.1 (OJ h.2.1 h.2.2 e)) (show ([12,0,1,2,3,4,14,13,11,10]:List Nat).Pairwise (fun a b=>a≠b∧a<26∧b<26) by decide))
 · intro t ht
   rcases List.mem_cons.mp ht with rfl | ht
   · refine⟨(fun z h=>by cases h),fun r hr=>?_,fun y hy=>by cases hy⟩
     rcases List.mem_append.mp (show r∈mW (aq ns 0) ks++[_] from hr) with hr | hr
     · unfold mW at hr
       obtain⟨m,hm,rfl⟩:=List.mem_mapIdx.mp hr
       exact⟨(fun s h=>by cases h),fun a ha=>by cases ha⟩
     · rw [List.mem_singleton.mp hr]
       refine⟨(fun s h=>by cases h;exact⟨by show 0≤4;decide,by show 1≤100;decide⟩),fun a ha=>?_⟩
       rw [List.mem_singleton.mp ha]
       exact Nat.le_trans (O1 _ _) (by decide)
   · rw [List.mem_singleton.mp ht]
     refine⟨fun z hz=>?_,fun r hr=>?_,fun y hy=>?_⟩
     · obtain⟨i,_,rfl⟩:=Option.map_eq_some_iff.mp hz
       exact G6 ns i
     · rw [List.mem_singleton.mp hr]
       refine⟨fun s h=>?_,fun a ha=>?_⟩
       · cases h
         exact⟨L.hd,by rw [L.hs,List.length_map];have:=L.hc;omega⟩
       · have ha:a∈sy.at:=ha
         rw [L.hs] at ha
         obtain⟨c,_,rfl⟩:=List.mem_map.mp ha
         rw [JT];exact G6 ns _
     · rw [List.mem_singleton.mp hy]
       refine⟨rfl,fun s h=>?_,fun a ha=>?_⟩
       · cases h;exact⟨by show 0≤4;decide,by show 1≤100;decide⟩
       · rw [List.mem_singleton.mp ha,L.hl,JT];exact G6 ns _
 · exact List.pairwise_singleton ..
 · intro t ht p hp z hz
   rw [List.mem_singleton.mp ht] at hp
   obtain⟨c,ps,rfl⟩:=G7 hp
   obtain⟨rfl,_⟩:=Uu hz
   exact G6 ns _
 · show [(fj (aq ns 0) 10,wJ ns ks (nP ns))].filter (Rv (tsP ns ks))=[]
   rw [List.filter_eq_nil_iff]
   intro t ht
   rw [List.mem_singleton.mp ht]
   have:Uj ((tsP ns ks).map (·.1)) (wJ ns ks (nP ns))=[]:=by
     unfold Uj
     rw [List.filterMap_eq_nil_iff]
     intro p hp
     unfold sF
     cases e:p.2 with
     | none=>rfl
     | some z=>exact if_neg (hno hp e)
   unfold Rv
   rw [this];decide
 · exact List.pairwise_singleton ..
 · intro t ht
   rw [List.mem_singleton.mp ht]
   refine⟨by show (wJ ns ks (nP ns)).length≤6;omega,fun p hp=>?_⟩
   obtain⟨c,ps,rfl⟩:=G7 hp
   show (1+c / 8 % 10 ^ 18).natAbs≤2*10 ^ 18
   have:=Int.emod_nonneg (c / 8) (show (10 ^ 18:Int)≠0 by decide)
   have:=Int.emod_lt_of_pos (c / 8) (show (0:Int)<10 ^ 18 by decide)
   omega
 · intro h0
   rw [L.fl] at h0
   unfold RK at h0
   obtain⟨h1,hpd⟩:=List.append_eq_nil_iff.mp h0
   obtain⟨Bf,h2⟩:=List.append_eq_nil_iff.mp h1
   obtain⟨hcs,hcl⟩:=List.append_eq_nil_iff.mp h2
   intro i t ht
   match i,ht with
   | 0,ht =>
     cases ht
     refine⟨(fun z h=>by cases h),fun j o hj=>?_⟩
     have lr:(mW (aq ns 0) ks).length=5:=by unfold mW;rw [List.length_mapIdx];exact hk
     have hj:((mW (aq ns 0) ks++[(⟨fj (aq ns 0) 14,none,some (.c (.is (fj (aq ns 0) q) Uc))⟩:Rw)]).map (·.sy)++[])[j]? = some o:=hj
     rw [List.append_nil,List.getElem?_map] at hj
     obtain⟨r,hr,rfl⟩:=Option.map_eq_some_iff.mp hj
     by_cases c:j<5
     · rw [List.getElem?_append_left (by omega)] at hr
       unfold mW at hr
       rw [List.getElem?_mapIdx] at hr
       obtain⟨x,hx,rfl⟩:=Option.map_eq_some_iff.mp hr
       exact⟨(fun s h=>by cases h),fun a ha=>by cases ha⟩
     · rw [List.getElem?_append_right (by omega),lr] at hr
       have hj2:=(List.getElem?_eq_some_iff.mp hr).1
       have hj2:j - 5<1:=hj2
       have e:j=5:=by omega
       subst e
       cases hr
       refine⟨(fun s h=>by cases h;exact⟨by show 0≤4;decide,by show 1≤100;decide⟩),fun a ha=>?_⟩
       rw [List.mem_singleton.mp ha]
       exact .inl ⟨0,q,VJ hk L.hq,aa0 (.inr ⟨rfl,L.hq⟩)⟩
   | 1,ht =>
     cases ht
     refine⟨fun z hz=>?_,fun j o hj=>?_⟩
     · obtain⟨i,hi,rfl⟩:=Option.map_eq_some_iff.mp hz
       unfold RW at Bf
       rw [hi] at Bf
       have Bf:RC ns ks i=[]:=Bf
       have hn:tD ks i=jW:=by
         unfold RC at Bf
         by_cases c:tD ks i=jW
         · exact c
         · rw [if_neg c] at Bf
           split at Bf <;> cases Bf
       rcases aa1 hk (by rw [hn];exact fun e=>Nm e.symm) with ⟨k,hlt,rfl⟩ | rfl
       · exact⟨0,k,VJ hk hlt,aa0 (.inl (by decide))⟩
       · exfalso
         unfold tD at hn
         dsimp only at hn
         rw [show ks[10]? = none by rw [List.getElem?_eq_none_iff,hk];decide] at hn
         exact Nk hn
     · have hj:[some sy,some (Sy.c ld)][j]? = some o:=hj
       have hj2:=(List.getElem?_eq_some_iff.mp hj).1
       have hj2:j<2:=hj2
       rcases (by omega:j=0∨j=1) with rfl | rfl
       · cases hj
         refine⟨(fun s h=>by cases h;exact⟨L.hd,by rw [L.hs,List.length_map];have:=L.hc;omega⟩),fun a ha=>?_⟩
         have ha:a∈sy.at:=ha
         rw [L.hs] at ha
         obtain⟨c,hc,rfl⟩:=List.mem_map.mp ha
         exact adE hk hpd (List.flatten_eq_nil_iff.mp hcs _ (List.mem_map_of_mem hc)) 0
       · cases hj
         refine⟨(fun s h=>by cases h;exact⟨by show 0≤4;decide,by show 1≤100;decide⟩),fun a ha=>?_⟩
         rw [List.mem_singleton.mp ha,L.hl]
         exact adE hk hpd hcl 1
   | i+2,ht=>cases ht
end
def cA (ns:List Int) (k:Nat):Int:=aq ns (5+k) % 10 ^ 40
def LK (ns:List Int) (n:Nat):List Int:=(List.range n).map (cA ns)
theorem aa2 (ns:List Int) (n:Nat):LK ns (n+1)=LK ns n++[cA ns n]:=by unfold LK;rw [List.range_succ,List.map_append];rfl
theorem vQ (ns:List Int) (n:Nat):(LK ns n).length=n:=by unfold LK;rw [List.length_map,List.length_range]
def nA (ns:List Int):Nat:=(1+aq ns 4 % 3).toNat
theorem adF (ns:List Int):1≤nA ns∧nA ns≤3:=by
 unfold nA
 have:=Int.emod_nonneg (aq ns 4) (show (3:Int)≠0 by decide)
 have:=Int.emod_lt_of_pos (aq ns 4) (show (0:Int)<3 by decide)
 omega
theorem acR (x:Int):0≤x % 10 ^ 40∧x % 10 ^ 40<10 ^ 40:=⟨Int.emod_nonneg _ (by decide),Int.emod_lt_of_pos _ (by decide)⟩
def cL (ns:List Int):Int:=aq ns 8 % 10 ^ 40
theorem Ek {H:Hp}{xs:List V}{fs:List Flt} (h:Paired (fun x f=>O6 H x (some f)) xs fs):Paired (O6 H) xs (fs.map some):=by
 induction h with
 | nil=>exact .nil
 | cons r _ ih=>exact .cons r ih
theorem afE {A:dq}{H H':Hp} (s:Lk H H') {x:V}{n:Str}{kd:Option Kx}{sy:Sy} (hk:kd=none∨kd=some .yn) (h:ym A H x ⟨n,kd,some sy⟩):ym A H' x ⟨n,kd,some sy⟩:=by
 obtain⟨a,dx,sv,e,h1,h2⟩:=h
 refine⟨a,dx,sv,e,Nf.lk s h1,?_⟩
 rcases hk with rfl | rfl
 · obtain⟨b,h2⟩:=h2;exact⟨b,s _ _ h2 (by intro z e;cases e)⟩
 · obtain⟨k,h2,dk,h3⟩:=h2;exact⟨k,s _ _ h2 (by intro z e;cases e),dk,s _ _ h3 (by intro z e;cases e)⟩
theorem acS (L:List Flt):(L.map some++[none])[0]? = some L.head?:=by cases L <;> rfl
theorem afF (f:Option Flt):∃ TL:List V,(∀ H x,O6 H x f→∃ t,x=.ref t∧H t=some (.tup TL))∧TL.all iV=true:=by
 refine⟨Vt f,fun _ _ h=>h,?_⟩
 rcases f with _ | ⟨_ | _,z⟩ <;> rfl
theorem aa3 (x:Kx):decide (V.str (tlK x)=V.str fU)=Bd x:=by
 rcases adD x with e | ⟨b,e⟩
 · have hk:Bd x=true∨Bd x=false:=by cases Bd x <;> simp
   have h:=RJ x
   rw [e]
   by_cases c:kw x=fU
   · rw [decide_eq_true c] at h;rw [← h];exact decide_eq_true (congrArg V.str c)
   · rw [decide_eq_false c] at h;rw [← h];exact decide_eq_false fun z=>c (V.str.inj z)
 · have hn:tlK x≠fU:=fun z=>by
     have h32:32∈cd (tlK x):=by rw [e,j6,j6,aaP,En];simp
     rw [z] at h32
     exact absurd h32 (by symm)
   rw [decide_eq_false fun z=>hn (V.str.inj z)]
   cases x with
   | yn=>exact absurd rfl hn
   | wh m lo hi=>rfl
   | nm n=>rfl
   | pk ws=>rfl
theorem RL (ns:List Int) (z:Str) (t:At):(Lz ns z t).length≤1:=by
 unfold Lz
 split
 · exact Nat.le_refl 1
 · split
   · exact Nat.zero_le 1
   · exact Nat.le_refl 1
theorem acT (ns:List Int) (ks:List Kx):(RW ns ks).length≤1:=by
 unfold RW
 split
 · exact Nat.zero_le 1
 · unfold RC
   split
   · exact Nat.zero_le 1
   · split <;> exact Nat.le_refl 1
def aa4 (K:W.Frag):Sp:=fun vs H Q _=>∃ (a:Addr) (ns:List Int),vs=[.ref a]∧cB K H a (ns.map V.int)∧ns.length≤63∧(∀ n∈ns,ib n≤1048576)∧∀ H',Q (.bl true) H'
section
variable {P:Program}{w:World}{K:W.Frag}{mg:Str→Option Value}{base:Heap}{A:dq}
theorem afG (T:Txt K mg A):aN P w K mg base dR 40 A.ZL A.ZM ["_law_script"] (aa4 K):=by
 have du:=lY (P:=P) (w:=w) (base:=base) T
 have bh:=xT (P:=P) (w:=w) (base:=base) T
 have RM:=Pa (P:=P) (w:=w) (base:=base) T
 have Uw:=RD (P:=P) (w:=w) (base:=base) T
 have JV:=RB (P:=P) (w:=w) (base:=base) T
 have Xm:=Us (P:=P) (w:=w) (base:=base) T
 have RN:=Pj (P:=P) (w:=w) (base:=base) T
 have Pn:=LC (P:=P) (w:=w) (base:=base) T
 have El:=aaN (P:=P) (w:=w) (base:=base) T
 have vq:=Rk (P:=P) (w:=w) (base:=base) T
 have rA:=Lr (P:=P) (w:=w) (base:=base) T
 have lD:=Ec (P:=P) (w:=w) (base:=base) T
 have jk:=yl (P:=P) (w:=w) (base:=base) T
 have rB:=Lj (P:=P) (w:=w) (base:=base) T
 have Df:=Ln (P:=P) (w:=w) (base:=base) T
 refine T.adi.ok gJ (fun vs H Q E h=>?_) (fun cdv A0 outer s H vs Q E hr h=>?_)
 · obtain⟨a,ns,rfl,_⟩:=h
   rfl
 obtain⟨a,ns,rfl,hS,hl,hb,q⟩:=h
 have hNs:Ns ns:=hb
 have hl':ns.length≤1000:=by omega
 have vO:∀ H',az H H'→Scr K H' a ns:=fun H' s=>⟨s.seq hS,hl',hNs⟩
 refine⟨_,(zD (zS (i:=1) gJ.nd rfl ‹0› (zO RM ‹hr› rfl T.Q3 T.Q0 T.QZ .nil zM (zA (pv 0) zC)))
     (zD (Ze (i:=2) gJ.nd rfl ‹0› (xJ (xA (x:="_law_k") (M:=["_law_script","_law_kinds_here","_law_rows","_law_each_here","_law_due_here","_law_atoms","","_law_led","_law_atom_here","_law_parts_here","_law_later","_law_saying_here","_law_row","_law_second","_law_asked","_law_first","_law_paper"]) rfl (by rfl)) (by rfl) (by symm)) rfl (rN rfl T.iG (zA (pv 1) zC)) (fun _ _ _ _=>lU) (fun _ _ _ _=>(yP T.Z5 vq ‹hr› rfl T.adk T.EY T.Fb zM (zA (zO bh ‹hr› rfl T.cH T.cG T.cD .nil zM (zA (pv 2) (zA (pv 0) zC))) (zA (pv 1) zC)))))
     (zD (XD (zO Uw ‹hr› rfl T.T3 T.TY T.TX .nil zM (zA (pv 0) (zA (pv 1) zC))) (j5 rfl (yB (zX (i:=3) gJ.nd rfl ‹0›) (yB (zX (i:=4) gJ.nd rfl ‹0›) xL))))
     (zD (zS (i:=5) gJ.nd rfl ‹0› (yM zC))
     (zD (yT PassesOwn.never rfl (vC rfl T.GQ (zA (zP xO zH (zP yN (zO du ‹hr› rfl T.fJ T.fH T.fG .nil zM (zA (pv 0) (zA zH zC))) zH)) zC)) (zX (i:=6) gJ.nd rfl ‹0›) (zF (yK (uw PySem.F.plainAttrs_list PySem.F.slot_list_append PySem.F.type_list_append nH (pv 5) (zA (zO JV ‹hr› rfl T.Jj T.Ji T.Jh .nil zM (zA (pv 0) (zA (zP yN (zO du ‹hr› rfl T.fJ T.fH T.fG .nil zM (zA (pv 0) (zA (zP xO zH (pv 6)) zC))) (zP rF zH zH)) zC))) zC)))))
     (zD (zS (i:=7) gJ.nd rfl ‹0› (zO JV ‹hr› rfl T.Jj T.Ji T.Jh .nil zM (zA (pv 0) (zA (zP yN (zO du ‹hr› rfl T.fJ T.fH T.fG .nil zM (zA (pv 0) (zA zH zC))) (zP rF zH zH)) zC))))
     (zD (yT PassesOwn.never rfl (yO (zP rH (pv 5) (yM (zA (pv 7) zC)))) (zX (i:=8) gJ.nd rfl ‹0›) (zF (zS (i:=4) gJ.nd rfl ‹0› (zP rH (pv 4) (zO Xm ‹hr› rfl T.W3 T.W2 T.W0 .nil zM (zA (pv 1) (zA (pv 0) (zA (pv 8) zC))))))))
     (zD (XD (zO RN ‹hr› rfl T.Q8 T.Q7 T.Q6 .nil zM (zA (pv 0) (zA (pv 1) zC))) (j5 rfl (yB (zX (i:=9) gJ.nd rfl ‹0›) (yB (zX (i:=10) gJ.nd rfl ‹0›) xL))))
     (zD (zS (i:=4) gJ.nd rfl ‹0› (zP rH (zP rH (pv 4) (pv 10)) (yM (zA (yL (zA zQ (zA zQ zC))) zC))))
     (zD (zS (i:=11) gJ.nd rfl ‹0› (zO Pn ‹hr› rfl T.Oi T.Oh T.Og .nil zM (zA (pv 5) (zA (zO du ‹hr› rfl T.fJ T.fH T.fG .nil zM (zA (pv 0) (zA zH zC))) zC))))
     (zD (zS (i:=12) gJ.nd rfl ‹0› (yP T.Z5 vq ‹hr› rfl T.adk T.Il .nil zM (zA (zO bh ‹hr› rfl T.cH T.cG T.cD .nil zM (zA (pv 0) (zA zH zC))) (zA (Qa T.Rb lD ‹hr› rfl T.Vq T.qP .nil zM) (zA (pv 11) zC)))))
     (zD (yF (zV xP (zP yN (zO du ‹hr› rfl T.fJ T.fH T.fG .nil zM (zA (pv 0) (zA zH zC))) zH) zH (yD _)) (zF (zS (i:=12) gJ.nd rfl ‹0› (yP T.Rf rA ‹hr› rfl T.Vl T.pQ T.pR zM (zA (zO bh ‹hr› rfl T.cH T.cG T.cD .nil zM (zA (pv 0) (zA zH zC))) (zA (pv 11) zC))))) zU)
     (zD (zS (i:=13) gJ.nd rfl ‹0› (yP T.Rg rB ‹hr› rfl T.Vo T.qR .nil zM (zA (zO bh ‹hr› rfl T.cH T.cG T.cD .nil zM (zA (pv 0) (zA zH zC))) (zA (pv 3) (zA (yM (zA (pv 12) zC)) (zA (yM (zA (yL (zA zQ (zA (pv 7) zC))) zC)) zC))))))
     (zD (zS (i:=14) gJ.nd rfl ‹0› (xX xR (nQ (xJ (xA (x:="_law_k") (M:=["_law_script","_law_kinds_here","_law_rows","_law_each_here","_law_due_here","_law_atoms","","_law_led","_law_atom_here","_law_parts_here","_law_later","_law_saying_here","_law_row","_law_second","_law_asked","_law_first","_law_paper"]) rfl (by rfl)) (by rfl) (by symm)) rfl (rN rfl T.iG (zA (pv 1) zC)) (fun _ _ _ _=>(z6 (zV xP (Wz (P:=P) (w:=w) (K:=K) (mg:=mg) (base:=base) rfl rfl rfl rfl rfl (CX:=dR) (k:=6) ‹hr› zM (pv 1)) zQ (yD _)))) (fun _ _ _ _=>(pv 0))) zH (fun _ _=>rfl)))
     (zD (yK (uw PySem.F.plainAttrs_list PySem.F.slot_list_append PySem.F.type_list_append nH (pv 2) (zA (yP T.Rf rA ‹hr› rfl T.Vl T.pQ T.pR zM (zA (zO bh ‹hr› rfl T.cH T.cG T.cD .nil zM (zA (pv 0) (zA zH zC))) (zA (yP T.Z8 jk ‹hr› rfl T.aeD T.uK T.uL zM (zA (zO bh ‹hr› rfl T.cH T.cG T.cD .nil zM (zA (pv 0) (zA (pv 14) zC))) (zA zQ zC))) zC))) zC)))
     (zD (zS (i:=15) gJ.nd rfl ‹0› (yP T.Rg rB ‹hr› rfl T.Vo T.qR .nil zM (zA (zO bh ‹hr› rfl T.cH T.cG T.cD .nil zM (zA (pv 0) (zA zH zC))) (zA mq (zA (pv 2) (zA (yM zC) zC))))))
     (zD (zS (i:=16) gJ.nd rfl ‹0› (yP T.Z6 Df ‹hr› rfl T.ab7 T.BZ .nil zM (zA zQ (zA (yM (zA (pv 15) (zA (pv 13) zC))) (zA (yM (zA (yL (zA (zO bh ‹hr› rfl T.cH T.cG T.cD .nil zM (zA (pv 0) (zA zH zC))) (zA (pv 9) zC))) zC)) zC)))))
     (zF (zR (uq (xM (YS (aiD hr)) (zO El ‹hr› rfl T.DK T.DG T.Dz .nil zM (zA (pv 16) zC)) (xX xR (pv 4) zH (fun _ _=>rfl)) (yD _)) (uo (xM (YS (aiD hr)) (zO El ‹hr› rfl T.DK T.DG T.Dz .nil zM (zA (pv 16) zC)) (xX xR (pv 4) zH (fun _ _=>rfl)) (yD _))))))))))))))))))))))),?_⟩
 generalize h0:L2.start _ [V.ref a]=σ0
 have h0:σ0=[some (.ref a),none,none,none,none,none,none,none,none,none,none,none,none,none,none,none,none]:=by rw [← h0];rfl
 subst h0
 refine yX fun _ hN=>?_
 refine⟨_,rfl,a,ns,rfl,vO _ (az.refl _),vO,fun lk xk H1 s1 hlk hks=>?_⟩
 refine hN _ _ ?_
 dsimp only [bC,List.set_cons_succ,List.set_cons_zero]
 obtain⟨k0,k1,k2,k3,k4,qn,hkL,hq5,hyn,adH⟩:=aaW ns
 have hkG:∀ x∈kL ns,x.G:=fun x hx=>(ajF hx).1
 have hkw:∀ x∈kL ns,∀ ws,x=.pk ws→ws=PJ ns:=fun x hx=>(ajF hx).2
 have Vz:(kL ns).length=5:=by rw [hkL];rfl
 generalize kL ns=ks at hks hkL hyn adH hkG hkw Vz
 have hKs:KsR A K H1 lk a ns ks:=⟨⟨xk,hlk,hks⟩,Vz,hkG,fun H' s=>vO _ (s1.trans s)⟩
 have lxk:xk.length=5:=by rw [zK hks];exact Vz
 have lrw:(mW (aq ns 0) ks).length=5:=by unfold mW;rw [List.length_mapIdx];exact Vz
 refine yU (fun σ' G=>∃ lr ys G2,σ'=[some (.ref a),some (.ref lk),some (.ref lr),none,none,none,none,none,none,none,none,none,none,none,none,none,none]∧az H1 G2∧G2 lr=none∧Paired (ym A G2) ys (mW (aq ns 0) ks)∧az G2 G∧G lr=some (.lst ys)) (fun σ' H2 hR=>?_) (fun _ hk=>?_)
 rotate_left
 · refine⟨_,rfl,lk,rfl,⟨_,cB.of hlk⟩,?_⟩
   refine HD (xs:=xk) (zZ (m:=100) (by omega)) (fun i ys G=>az H1 G∧Paired (ym A G) ys ((mW (aq ns 0) ks).take i)) ⟨az.refl _,.nil⟩ (fun i ys G hw=>cB.of (hw.1 _ _ hlk)) (fun i x ys G hx _ hw Tt hT=>?_) (fun ys G hw p hp=>?_)
   · obtain⟨sG,hys⟩:=hw
     obtain⟨kx,hki,k,rfl,hkx⟩:=zW hks hx
     have li:=(List.getElem?_eq_some_iff.mp hki).1
     have sT:=zG hT (.tup [.int (i:Nat),.ref k])
     have s1':=sG.trans sT
     have ajL:Paired (ym A (upd G Tt (.tup [.int (i:Nat),.ref k]))) ys ((mW (aq ns 0) ks).take i):=zJ hys fun _ _ r=>r.same sT
     generalize upd G Tt (.tup [.int (i:Nat),.ref k])=G1 at sT s1' ajL
     have mX:=vO _ (s1.trans s1')
     refine nu ⟨_,rfl,_,rfl,a,ns,i,rfl,mX.1,by omega,mX.2.1,mX.2.2,_,rfl,?_⟩
     intro x dx nx nd ne
     refine⟨x,dx,_,_,_,rfl,zB,rfl,?_⟩
     rw [yA]
     have s3:=xW (Ub A dx (.str (fj (aq ns 0) i)) (.ref k) .non) nx nd
     refine⟨s1'.trans s3,?_⟩
     rw [yJ (show (mW (aq ns 0) ks)[i]? = some ⟨fj (aq ns 0) i,some kx,none⟩ by unfold mW;rw [List.getElem?_mapIdx,hki];rfl)]
     exact yE (zJ ajL fun _ _ r=>r.same s3) (.cons ⟨x,dx,.non,rfl,rfl,k,zB,(hkx.same s1').same s3⟩ .nil)
   · obtain⟨sG,hys⟩:=hw
     rw [lxk,← lrw,List.take_length] at hys
     exact hk _ _ ⟨p,ys,G,rfl,sG,hp,hys,zG hp _,zB⟩
 obtain⟨lr,ys,G2,rfl,sH2,ajM,aa5,s2,hlr⟩:=hR
 have sA2:=s1.trans (sH2.trans s2)
 have ajN:=hKs.same (sH2.trans s2)
 refine yX fun _ hN=>?_
 refine⟨_,rfl,_,rfl,a,lk,ns,ks,rfl,ajN,fun t3 ld0 H3 s3 ht3 awr=>?_⟩
 refine⟨t3,_,rfl,jJ.of ht3,rfl,_,_,rfl,_,_,rfl,rfl,?_⟩
 refine hN _ _ ?_
 dsimp only [bC,List.set_cons_succ,List.set_cons_zero]
 have sA3:=sA2.trans s3
 have awt:=ajN.same s3
 generalize Bf:(eaI ns).map (lN ns)=ea
 refine yX fun _ hN=>?_
 refine⟨(by show 0≤sizeLine;decide),fun la hla=>?_⟩
 have s4:=zG hla (.lst [])
 have ajO:(upd H3 la (.lst [])) la=some (.lst []):=zB
 generalize upd H3 la (.lst [])=H4 at s4 ajO
 refine hN _ _ ?_
 dsimp only [bC,List.set_cons_succ,List.set_cons_zero]
 refine yU (fun σ' G=>∃ u6 xa,σ'=[some (.ref a),some (.ref lk),some (.ref lr),some (nv ea),some (.ref ld0),some (.ref la),u6,none,none,none,none,none,none,none,none,none,none]∧az H3 G∧G la=some (.lst xa)∧Paired (JX A G) xa ((LK ns (nA ns)).map (JZ ns))) (fun σ' H5 hR=>?_) (fun _ hk=>?_)
 rotate_left
 · have mX:=vO _ (sA3.trans s4)
   refine⟨_,rfl,a,ns,4,rfl,mX.1,by decide,mX.2.1,mX.2.2,_,_,rfl,rfl,(show (0:Int)<3 by decide),_,_,rfl,rfl,_,rfl,?_⟩
   have m0:=Int.emod_nonneg (aq ns 4) (show (3:Int)≠0 by decide)
   have m1:=Int.emod_lt_of_pos (aq ns 4) (show (0:Int)<3 by decide)
   refine⟨by omega,by omega,?_⟩
   have n3:=adF ns
   refine rK (n:=nA ns) (fun k σ G=>∃ u6 xa,σ=[some (.ref a),some (.ref lk),some (.ref lr),some (nv ea),some (.ref ld0),some (.ref la),u6,none,none,none,none,none,none,none,none,none,none]∧az H3 G∧G la=some (.lst xa)∧Paired (JX A G) xa ((LK ns k).map (JZ ns))) ⟨_,[],rfl,s4,ajO,.nil⟩ (fun k σ G hk' hw=>?_) (fun σ G hw=>hk _ _ hw)
   obtain⟨u6,xa,rfl,sG,hG,hxa⟩:=hw
   have sHG:=sA3.trans sG
   have mX:=vO _ sHG
   have lx:xa.length=k:=by rw [zK hxa,List.length_map,vQ]
   refine⟨_,rfl,.inl ⟨rfl,_,cB.of hG⟩,_,rfl,_,rfl,_,rfl,_,_,rfl,rfl,a,ns,5+k,(by dsimp only;rw [show (5:Int)+(0+(k:Int))=((5+k:Nat):Int) by omega];rfl),mX.1,by omega,mX.2.1,mX.2.2,_,_,rfl,rfl,⟨by decide,by decide⟩,_,_,rfl,rfl,(show (0:Int)<10 ^ 40 by decide),a,ns,cA ns k,rfl,mX,fun H' s=>vO _ (sHG.trans s),(acR _).1,(acR _).2,fun v G1 s6 hv=>?_⟩
   refine⟨la,_,_,rfl,rfl,s6 _ _ hG,zZ (m:=100) (by omega),?_⟩
   have lkk:=Lk.upd (us:=xa++[v]) (s6 _ _ hG)
   refine⟨_,xa++[v],rfl,vp (sG.trans s6) hla _,zB,?_⟩
   rw [aa2,List.map_append]
   exact yE (zJ hxa fun _ _ r=>(r.same s6).lk lkk) (.cons (hv.lk lkk) .nil)
 obtain⟨u6,xa,rfl,s5,ajP,hxa⟩:=hR
 have sA5:=sA3.trans s5
 have awv:=awt.same s5
 have lxa:xa.length=nA ns:=by rw [zK hxa,List.length_map,vQ]
 have n3:=adF ns
 refine yX fun _ hN=>?_
 have mX:=vO _ sA5
 refine⟨_,rfl,_,rfl,a,ns,8,rfl,mX.1,by decide,mX.2.1,mX.2.2,_,_,rfl,rfl,⟨by decide,by decide⟩,_,_,rfl,rfl,(show (0:Int)<10 ^ 40 by decide),a,ns,cL ns,rfl,mX,fun H' s=>vO _ (sA5.trans s),(acR _).1,(acR _).2,fun vl H6 s6 hvl=>?_⟩
 refine hN _ _ ?_
 dsimp only [bC,List.set_cons_succ,List.set_cons_zero]
 have sA6:=sA5.trans s6
 have ajQ:=awv.same s6
 refine yU (fun σ' G=>∃ u8 ldu,σ'=[some (.ref a),some (.ref lk),some (.ref lr),some (nv ea),some (.ref ldu),some (.ref la),u6,some vl,u8,none,none,none,none,none,none,none,none]∧az H6 G∧FsR G ldu (RW ns ks++((LK ns (nA ns)++[cL ns]).map (VG ns ks)).flatten)∧(RW ns ks++((LK ns (nA ns)++[cL ns]).map (VG ns ks)).flatten).length≤10) (fun σ' H7 hR=>?_) (fun _ hk=>?_)
 rotate_left
 · refine⟨_,rfl,_,rfl,(by show 1≤sizeLine;decide),fun l7 hl7=>?_⟩
   have s7:=zG hl7 (.lst [vl])
   have h7:(upd H6 l7 (.lst [vl])) l7=some (.lst [vl]):=zB
   generalize upd H6 l7 (.lst [vl])=H7 at s7 h7
   refine⟨la,l7,_,_,rfl,rfl,(s6.trans s7) _ _ ajP,h7,(by rw [sizeLine_eq];show xa.length+1≤_;omega),fun l8 hl8=>?_⟩
   have s8:=zG hl8 (.lst (xa++[vl]))
   have h8:(upd H7 l8 (.lst (xa++[vl]))) l8=some (.lst (xa++[vl])):=zB
   generalize upd H7 l8 (.lst (xa++[vl]))=H8 at s8 h8
   have s68:=s7.trans s8
   have hall:Paired (JX A H8) (xa++[vl]) ((LK ns (nA ns)++[cL ns]).map (JZ ns)):=by
     rw [List.map_append]
     exact yE (zJ hxa fun _ _ r=>r.same (s6.trans s68)) (.cons (hvl.same s68) .nil)
   have ajS:(LK ns (nA ns)++[cL ns]).length=nA ns+1:=by rw [List.length_append,vQ];rfl
   refine⟨l8,rfl,⟨_,cB.of h8⟩,?_⟩
   generalize LK ns (nA ns)++[cL ns]=cs at hall ajS hk
   have lx8:(xa++[vl]).length=cs.length:=by rw [zK hall,List.length_map]
   refine yR (xs:=xa++[vl]) (fun j σ G=>∃ u8 ldu,σ=[some (.ref a),some (.ref lk),some (.ref lr),some (nv ea),some (.ref ldu),some (.ref la),u6,some vl,u8,none,none,none,none,none,none,none,none]∧az H8 G∧FsR G ldu (RW ns ks++((cs.take j).map (VG ns ks)).flatten)∧(RW ns ks++((cs.take j).map (VG ns ks)).flatten).length≤1+j) ⟨_,ld0,rfl,az.refl _,(by rw [List.take_zero];show FsR H8 ld0 (RW ns ks++[]);rw [List.append_nil];exact awr.same (s5.trans (s6.trans s68))),(by rw [List.take_zero];show (RW ns ks++[]).length≤1;rw [List.append_nil];exact acT ns ks)⟩ (fun j σ G _ hw=>by obtain⟨_,_,_,sG,_⟩:=hw;exact cB.of (sG _ _ h8)) (fun j x σ G PB hw=>?_) (fun σ G hw=>?_)
   · obtain⟨u8,ldu,rfl,sG,⟨xd,hd1,hd2⟩,hlen⟩:=hw
     obtain⟨t,ht,hat⟩:=zW hall PB
     rw [List.getElem?_map] at ht
     obtain⟨c,hcj,rfl⟩:=Option.map_eq_some_iff.mp ht
     have sJ:=s68.trans sG
     have hj:j<nA ns+1:=by rw [← ajS];exact (List.getElem?_eq_some_iff.mp hcj).1
     refine⟨_,rfl,_,rfl,_,rfl,_,rfl,lk,a,x,ns,ks,JZ ns c,iz c,rfl,ajQ.same sJ,hat.same sG,JT ns c,(tH c).lt,fun p G1 sp hfs=>?_⟩
     obtain⟨xe,he1,he2⟩:=hfs
     have le2:xe.length≤1:=by rw [zK he2];exact RL ..
     have ld2:xd.length≤1+j:=by rw [zK hd2];exact hlen
     refine⟨ldu,p,_,_,rfl,rfl,sp _ _ hd1,he1,(by rw [sizeLine_eq];omega),fun l9 hl9=>?_⟩
     have s9:=zG hl9 (.lst (xd++xe))
     rw [yJ hcj,List.map_append,List.flatten_append,← List.append_assoc]
     have e1:([c].map (VG ns ks)).flatten=Lz ns (tD ks (iz c)) (JZ ns c):=by show VG ns ks c++[]=_;rw [List.append_nil];rfl
     rw [e1]
     refine⟨_,l9,rfl,sG.trans (sp.trans s9),⟨_,zB,yE (zJ hd2 fun _ _ r=>r.lk (.of (sp.trans s9))) (zJ he2 fun _ _ r=>r.lk (.of s9))⟩,?_⟩
     rw [List.length_append]
     have:=RL ns (tD ks (iz c)) (JZ ns c)
     omega
   · obtain⟨u8,ldu,rfl,sG,hfs,hlen⟩:=hw
     rw [lx8,List.take_length] at hfs hlen
     exact hk _ _ ⟨u8,ldu,rfl,s68.trans sG,hfs,by omega⟩
 obtain⟨u8,ldu,rfl,s7,aww,awx⟩:=hR
 have sA7:=sA6.trans s7
 have awy:=ajQ.same s7
 refine yX fun _ hN=>?_
 refine⟨_,rfl,_,rfl,a,lk,ns,ks,rfl,awy,fun t9 lp ldp H9 awA s9 ht9 hps hfp=>?_⟩
 refine⟨t9,_,rfl,jJ.of ht9,rfl,_,_,rfl,_,_,rfl,rfl,?_⟩
 refine hN _ _ ?_
 dsimp only [bC,List.set_cons_succ,List.set_cons_zero]
 have sA9:=sA7.trans s9
 obtain⟨xd,hd1,hd2⟩:=aww
 obtain⟨xp,hp1,hp2⟩:=hfp
 have lxd:xd.length≤10:=by rw [zK hd2];exact awx
 have lxp:xp.length≤3:=by rw [zK hp2];exact Nat.le_trans (Ph ..) (aaV ns).2
 refine yX fun _ hN=>?_
 refine⟨_,rfl,_,rfl,ldu,ldp,_,_,rfl,rfl,s9 _ _ hd1,hp1,(by rw [sizeLine_eq];omega),fun l10 awB=>?_⟩
 have s10:=zG awB (.lst (xd++xp))
 have h10:(upd H9 l10 (.lst (xd++xp))) l10=some (.lst (xd++xp)):=zB
 generalize upd H9 l10 (.lst (xd++xp))=H10 at s10 h10
 refine⟨(by show 2≤sizeLine;decide),fun LQ awC=>⟨(by show 1≤sizeLine;decide),fun l12 awD=>?_⟩⟩
 have s11:=zG awC (.tup [.str ‹"none"›,.str ‹"None"›])
 have h11:(upd H10 LQ (.tup [.str ‹"none"›,.str ‹"None"›])) LQ=some (.tup [.str ‹"none"›,.str ‹"None"›]):=zB
 have s12:=zG awD (.lst [.ref LQ])
 have h12:(upd (upd H10 LQ (.tup [.str ‹"none"›,.str ‹"None"›])) l12 (.lst [.ref LQ])) l12=some (.lst [.ref LQ]):=zB
 refine⟨l10,l12,_,_,rfl,rfl,(s11.trans s12) _ _ h10,h12,(by rw [sizeLine_eq,List.length_append];show _+1≤_;omega),fun ld hld=>?_⟩
 have Vw:=zG hld (.lst (xd++xp++[.ref LQ]))
 have RP:=s10.trans (s11.trans (s12.trans Vw))
 have sB:az H2 H9:=s3.trans (s5.trans (s6.trans (s7.trans s9)))
 have awE:ld≠lr:=Ne.symm (zI ((s10.trans (s11.trans s12)) _ _ (sB _ _ hlr)) hld)
 have adI:(upd (upd (upd H10 LQ (.tup [.str ‹"none"›,.str ‹"None"›])) l12 (.lst [.ref LQ])) ld (.lst (xd++xp++[.ref LQ]))) ld=some (.lst (xd++xp++[.ref LQ])):=zB
 have ajV:Paired (O6 (upd (upd (upd H10 LQ (.tup [.str ‹"none"›,.str ‹"None"›])) l12 (.lst [.ref LQ])) ld (.lst (xd++xp++[.ref LQ])))) (xd++xp++[.ref LQ]) ((RK ns ks (LK ns (nA ns)) (cL ns)).map some++[none]):=by
   have e1:RK ns ks (LK ns (nA ns)) (cL ns)=(RW ns ks++((LK ns (nA ns)++[cL ns]).map (VG ns ks)).flatten)++RX ns ks (nP ns):=by
     unfold RK
     rw [List.map_append,List.flatten_append,List.map_singleton,List.flatten_singleton]
   rw [e1,List.map_append]
   exact yE (yE (Ek (zJ hd2 fun _ _ r=>r.lk (.of (s9.trans RP)))) (Ek (zJ hp2 fun _ _ r=>r.lk (.of RP)))) (.cons ⟨LQ,rfl,(s12.trans Vw) _ _ h11⟩ .nil)
 generalize upd (upd (upd H10 LQ (.tup [.str ‹"none"›,.str ‹"None"›])) l12 (.lst [.ref LQ])) ld (.lst (xd++xp++[.ref LQ]))=H13 at RP adI ajV
 refine hN _ _ ?_
 dsimp only [bC,List.set_cons_succ,List.set_cons_zero]
 have ajW:=sA9.trans RP
 obtain⟨t0,r0,htr⟩:∃ t r,(LK ns (nA ns)).map (JZ ns)=t::r:=by
   cases e:(LK ns (nA ns)).map (JZ ns) with
   | nil =>
     have:=congrArg List.length e
     rw [List.length_map,vQ] at this
     have:nA ns=0:=this
     omega
   | cons t r=>exact⟨t,r,rfl⟩
 have ajX:=s6.trans (s7.trans (s9.trans RP))
 have mX:=vO _ ajW
 refine yX fun _ hN=>?_
 refine⟨_,rfl,_,rfl,a,ns,9,rfl,mX.1,by decide,mX.2.1,mX.2.2,la,aq ns 9,xa,t0,r0,rfl,ajX _ _ ajP,(by rw [← htr];exact zJ hxa fun _ _ r=>r.same ajX),fun v14 H14 s14 afH=>?_⟩
 have ajY:(syF (aq ns 9) t0 r0).at=(LK ns (nA ns)).map (JZ ns):=by
   rw [htr]
   unfold syF
   rw [aaS,afr];rfl
 have ajZ:(syF (aq ns 9) t0 r0).dp≤4:=by
   have h1:=aaT (aq ns 9) r0 (Xq (aq ns 9) t0) 1 (afs _ _) (Nat.le_refl 1)
   have h2:=congrArg List.length htr
   rw [List.length_map,vQ,List.length_cons] at h2
   unfold syF
   omega
 generalize syF (aq ns 9) t0 r0=sy at afH ajY ajZ
 refine hN _ _ ?_
 dsimp only [bC,List.set_cons_succ,List.set_cons_zero]
 have afI:=ajW.trans s14
 have mX:=vO _ afI
 refine yX fun _ hN=>?_
 refine⟨_,rfl,a,ns,11,rfl,mX.1,by decide,mX.2.1,mX.2.2,?_⟩
 intro x1 d1 nx1 nd1 ne1
 refine⟨x1,d1,rfl,zB,rfl,?_⟩
 rw [yA]
 have sk:=xW (.ins A.aP d1 [("low",.int 0),("high",.int 1)]) nx1 nd1
 have hkk:M9 A (upd (upd H14 d1 (.own x1)) x1 (.ins A.aP d1 [("low",.int 0),("high",.int 1)])) x1 .yn:=⟨d1,zB⟩
 generalize upd (upd H14 d1 (.own x1)) x1 (.ins A.aP d1 [("low",.int 0),("high",.int 1)])=aj0 at sk hkk
 refine⟨_,rfl,fun xr dr nxr ndr ner=>⟨xr,dr,_,_,_,rfl,zB,rfl,?_⟩⟩
 rw [yA]
 have sr:=xW (Ub A dr (.str (fj (aq ns 0) 11)) (.ref x1) v14) nxr ndr
 have hxr:(upd (upd aj0 dr (.own xr)) xr (Ub A dr (.str (fj (aq ns 0) 11)) (.ref x1) v14)) xr=some (Ub A dr (.str (fj (aq ns 0) 11)) (.ref x1) v14):=zB
 generalize upd (upd aj0 dr (.own xr)) xr (Ub A dr (.str (fj (aq ns 0) 11)) (.ref x1) v14)=H15 at sr hxr
 have Xf:=sk.trans sr
 refine hN _ _ ?_
 dsimp only [bC,List.set_cons_succ,List.set_cons_zero]
 refine yU (fun σ' G=>∃ vr kd,σ'=[some (.ref a),some (.ref lk),some (.ref lr),some (nv ea),some (.ref ld),some (.ref la),u6,some vl,u8,some (.ref lp),some (.ref ldp),some v14,some vr,none,none,none,none]∧az H14 G∧(kd=none∨kd=some .yn)∧ym A G vr ⟨fj (aq ns 0) 11,kd,some sy⟩) (fun σ' H16 hR=>?_) (fun _ hk=>?_)
 rotate_left
 · have mX:=vO _ (afI.trans Xf)
   refine⟨_,rfl,a,ns,10,rfl,mX.1,by decide,mX.2.1,mX.2.2,_,_,rfl,rfl,(by show (0:Int)<2;decide),rfl,_,rfl,jY (fun e=>?_) (fun e=>?_)⟩
   · refine⟨_,rfl,a,ns,11,rfl,mX.1,by decide,mX.2.1,mX.2.2,_,rfl,fun xc dc nxc ndc nec=>⟨xc,dc,_,_,_,rfl,zB,rfl,?_⟩⟩
     rw [yA]
     have sc:=xW (oCk A dc (.str (fj (aq ns 0) 11)) v14 (.bl true)) nxc ndc
     exact hk _ _ ⟨_,none,rfl,Xf.trans sc,.inl rfl,⟨xc,dc,v14,rfl,afH.same (Xf.trans sc),_,zB⟩⟩
   · exact hk _ _ ⟨_,some .yn,rfl,Xf,.inr rfl,⟨xr,dr,v14,rfl,afH.same Xf,x1,hxr,hkk.same sr⟩⟩
 obtain⟨vr,kd,rfl,s16,hkd,hrow⟩:=hR
 have aj1:=afI.trans s16
 have mX:=vO _ aj1
 refine yX fun _ hN=>?_
 refine⟨_,rfl,a,ns,13,rfl,mX.1,by decide,mX.2.1,mX.2.2,_,rfl,_,rfl,(by show 1≤sizeLine;decide),fun l17 awI=>?_⟩
 have s17:=zG awI (.lst [vr])
 have h17:(upd H16 l17 (.lst [vr])) l17=some (.lst [vr]):=zB
 generalize upd H16 l17 (.lst [vr])=H17 at s17 h17
 refine⟨_,rfl,(by show 2≤sizeLine;decide),fun t18 awJ=>?_⟩
 have s18:=zG awJ (.tup [.str zE,vl])
 have h18:(upd H17 t18 (.tup [.str zE,vl])) t18=some (.tup [.str zE,vl]):=zB
 refine⟨(by show 1≤sizeLine;decide),fun l19 awL=>?_⟩
 have s19:=zG awL (.lst [.ref t18])
 have h19:(upd (upd H17 t18 (.tup [.str zE,vl])) l19 (.lst [.ref t18])) l19=some (.lst [.ref t18]):=zB
 refine fun x2 d2 nx2 nd2 ne2=>?_
 have sm2:=yW nx2 nd2 (.ins A.jR d2 [])
 refine⟨x2,d2,_,_,l17,l19,[vr],[.ref t18],rfl,zB,sm2 _ _ ((s18.trans s19) _ _ h17),sm2 _ _ h19,fun q1 q2 H20 n12 hq1 hq2 F20 hx2 aeM awM=>⟨rfl,?_⟩⟩
 have VL:=s17.trans (s18.trans s19)
 have s20:az H16 H20:=fun b o hb'=>F20 _ _ (sm2 _ _ (VL _ _ hb')) (Bc (zI (VL _ _ hb') nx2))
 have sC:az H2 H16:=sB.trans (RP.trans (s14.trans s16))
 have aa8:=sC _ _ hlr
 have nq1:q1≠lr:=Ne.symm (zI (sm2 _ _ (VL _ _ aa8)) hq1)
 have nq2:q2≠lr:=Ne.symm (zI (sm2 _ _ (VL _ _ aa8)) hq2)
 have awN:H20 t18=some (.tup [.str zE,vl]):=F20 _ _ (sm2 _ _ (s19 _ _ h18)) (Bc (zI (s19 _ _ h18) nx2))
 have afK:=hrow.same s20
 have aj2:JX A H20 vl (JZ ns (cL ns)):=hvl.same (s7.trans (s9.trans (RP.trans (s14.trans (s16.trans s20)))))
 refine hN _ _ ?_
 dsimp only [bC,List.set_cons_succ,List.set_cons_zero]
 have awO:=aj1.trans s20
 have adJ:=s20 _ _ aa8
 have afL:az H1 H20:=sH2.trans (s2.trans (sC.trans s20))
 have aj3:PsR H20 lp (wJ ns ks (nP ns)):=hps.kp (.of (RP.trans (s14.trans (s16.trans s20))))
 have nlp:lp≠lr:=Ne.symm (zI ((s3.trans (s5.trans (s6.trans s7))) _ _ hlr) awA)
 have aj4:=(s14.trans (s16.trans s20)) _ _ adI
 have aj5:=zJ ajV fun _ _ r=>O6.lk (.of (s14.trans (s16.trans s20))) r
 have aq1:=zJ aa5 fun _ _ r=>ym.same (s2.trans (sC.trans s20)) r
 refine yU (fun σ' G=>σ'=[some (.ref a),some (.ref lk),some (.ref lr),some (nv ea),some (.ref ld),some (.ref la),u6,some vl,u8,some (.ref lp),some (.ref ldp),some v14,some vr,some (.ref x2),some (.int (qn:Nat)),none,none]∧az H20 G) (fun σ' H21 hR=>?_) (fun _ hk=>?_)
 rotate_left
 · refine⟨_,rfl,lk,rfl,⟨_,cB.of (afL _ _ hlk)⟩,?_⟩
   refine HD (xs:=xk) (zZ (m:=100) (by omega)) (fun i zs G=>az H20 G∧zs=((List.range i).filter fun k=>(ks[k]?.map Bd).getD false).map fun k=>V.int (k:Nat)) ⟨az.refl _,rfl⟩ (fun i zs G hw=>cB.of ((afL.trans hw.1) _ _ hlk)) (fun i x zs G hx _ hw Tt hT=>?_) (fun zs G hw p hp=>?_)
   · obtain⟨sG,rfl⟩:=hw
     obtain⟨kx,hki,k,rfl,hkx⟩:=zW hks hx
     have sT:=sG.trans (zG hT (.tup [.int (i:Nat),.ref k]))
     generalize upd G Tt (.tup [.int (i:Nat),.ref k])=G1 at sT
     have hk2:=hkx.same (afL.trans sT)
     obtain⟨dk,fs,hk3,_,hlk',_⟩:=hk2.ins T
     obtain⟨M,hdv,hsp⟩:=aao (P:=P) (w:=w) (base:=base) T kx
     refine⟨_,rfl,k,_,dk,fs,M,rfl,hk3,hlk',?_⟩
     dsimp only [J0]
     rw [hdv]
     refine hsp k _ _ _ hk2 (hkG kx (List.mem_of_getElem? hki)) fun H22 s22=>⟨rfl,?_⟩
     have e0:(List.range (i+1)).filter (fun k=>(ks[k]?.map Bd).getD false)=(List.range i).filter (fun k=>(ks[k]?.map Bd).getD false)++if Bd kx then [i] else []:=by
       rw [List.range_succ,List.filter_append]
       congr 1
       rw [List.filter_cons,hki]
       rfl
     rw [e0,List.map_append]
     have e1:decide (V.str (tlK kx)=V.str ‹"yesno"›)=Bd kx:=aa3 kx
     refine⟨_,rfl,?_⟩
     show if decide (V.str (tlK kx)=V.str ‹"yesno"›)=true then _ else _
     rw [e1]
     cases c:Bd kx with
     | true=>exact cJ ⟨_,rfl,sT.trans s22,rfl⟩
     | false=>exact bD ⟨sT.trans s22,(List.append_nil _).symm⟩
   · obtain⟨sG,rfl⟩:=hw
     rw [lxk,← Vz]
     rw [show ((List.range ks.length).filter fun k=>(ks[k]?.map Bd).getD false)=[qn] from adH]
     have s22:=zG hp (.lst [.int (qn:Nat)])
     refine⟨p,_,0,.int (qn:Nat),rfl,rfl,cB.of zB,(by have:=xE (show [V.int (qn:Nat)][0]? = some (V.int (qn:Nat)) from rfl);exact this),?_⟩
     exact hk _ _ ⟨rfl,sG.trans s22⟩
 obtain⟨rfl,s21⟩:=hR
 have aj6:=awO.trans s21
 have mX:=vO _ aj6
 refine yX fun _ hN=>?_
 refine⟨_,rfl,.inl ⟨rfl,_,cB.of (s21 _ _ adJ)⟩,_,rfl,a,ns,14,rfl,mX.1,by decide,mX.2.1,mX.2.2,_,rfl,_,rfl,a,ns,qn,rfl,mX.1,by omega,mX.2.1,mX.2.2,fun xi di nxi ndi nei=>⟨xi,di,_,_,_,rfl,zB,rfl,?_⟩⟩
 rw [yA]
 have si:=xW (oIs A di (.str (fj (aq ns 0) qn)) (.str ‹"no"›) .non) nxi ndi
 have hxi:(upd (upd H21 di (.own xi)) xi (oIs A di (.str (fj (aq ns 0) qn)) (.str ‹"no"›) .non)) xi=some (oIs A di (.str (fj (aq ns 0) qn)) (.str ‹"no"›) .non):=zB
 generalize upd (upd H21 di (.own xi)) xi (oIs A di (.str (fj (aq ns 0) qn)) (.str ‹"no"›) .non)=H22 at si hxi
 refine fun xc dc nxc ndc nec=>⟨xc,dc,_,_,_,rfl,zB,rfl,?_⟩
 rw [yA]
 have sc:=xW (oCk A dc (.str (fj (aq ns 0) 14)) (.ref xi) (.bl true)) nxc ndc
 have hxc:(upd (upd H22 dc (.own xc)) xc (oCk A dc (.str (fj (aq ns 0) 14)) (.ref xi) (.bl true))) xc=some (oCk A dc (.str (fj (aq ns 0) 14)) (.ref xi) (.bl true)):=zB
 generalize upd (upd H22 dc (.own xc)) xc (oCk A dc (.str (fj (aq ns 0) 14)) (.ref xi) (.bl true))=H23 at sc hxc
 have aa9:=si.trans sc
 have adK:=aa9 _ _ (s21 _ _ adJ)
 have lys:ys.length=5:=by rw [zK aa5];exact lrw
 refine⟨lr,_,_,rfl,rfl,adK,zZ (m:=100) (by omega),?_⟩
 have lkk:=Lk.upd (us:=ys++[.ref xc]) adK
 have vy:=s21.trans aa9
 have awQ:=same_none (s1.trans sH2) ajM
 have sG2:az G2 (upd H23 lr (.lst (ys++[.ref xc]))):=vp (s2.trans (sC.trans (s20.trans vy))) ajM _
 have VM:Paired (ym A (upd H23 lr (.lst (ys++[.ref xc])))) ys (mW (aq ns 0) ks):=zJ aa5 fun _ _ r=>r.same sG2
 have adL:ym A (upd H23 lr (.lst (ys++[.ref xc]))) (.ref xc) ⟨fj (aq ns 0) 14,none,some (.c (.is (fj (aq ns 0) qn) Uc))⟩:=⟨xc,dc,.ref xi,rfl,⟨xi,di,rfl,lkk _ _ (sc _ _ hxi) (by intro z e;cases e)⟩,_,lkk _ _ hxc (by intro z e;cases e)⟩
 have aj7:ShR A (upd H23 lr (.lst (ys++[.ref xc]))) (.ref x2) (sh2 ns kd sy (JZ ns (cL ns))):=⟨x2,d2,q1,q2,[vr],[.ref t18],rfl,(by show _=some (oSh A d2 (.str (fj (aq ns 0) 13)) (nv ((eaI ns).map (lN ns))) q1 q2);rw [Bf];exact lkk _ _ (vy _ _ hx2) (by intro z e;cases e)),(by rw [zL nq1];exact vy _ _ aeM),(by rw [zL nq2];exact vy _ _ awM),.cons (afE lkk hkd (afK.same vy)) .nil,.cons ⟨t18,vl,rfl,lkk _ _ (vy _ _ awN) (by intro z e;cases e),(aj2.same vy).lk lkk⟩ .nil⟩
 have adM:PsR (upd H23 lr (.lst (ys++[.ref xc]))) lp (wJ ns ks (nP ns)):=by
   obtain⟨xs,e,h⟩:=aj3
   exact⟨xs,by rw [zL nlp];exact vy _ _ e,zJ h fun _ _ r=>(r.lk (.of vy)).lk lkk⟩
 have adN:(upd H23 lr (.lst (ys++[.ref xc]))) ld=some (.lst (xd++xp++[.ref LQ])):=by rw [zL awE];exact vy _ _ aj4
 have adO:Paired (O6 (upd H23 lr (.lst (ys++[.ref xc])))) (xd++xp++[.ref LQ]) ((RK ns ks (LK ns (nA ns)) (cL ns)).map some++[none]):=zJ aj5 fun _ _ r=>(O6.lk (.of vy) r).lk lkk
 have adP:(upd H23 lr (.lst (ys++[.ref xc]))) lr=some (.lst (ys++[.ref xc])):=zB
 have afM:az H (upd H23 lr (.lst (ys++[.ref xc]))):=vp (aj6.trans aa9) awQ _
 generalize upd H23 lr (.lst (ys++[.ref xc]))=H24 at sG2 VM adL aj7 adM adN adO adP afM
 refine hN _ _ ?_
 have mX:=vO _ afM
 refine yX fun _ hN=>?_
 refine⟨_,rfl,a,ns,12,rfl,mX.1,by decide,mX.2.1,mX.2.2,_,rfl,(by show 0≤sizeLine;decide),fun l25 awS=>?_⟩
 have s25:=zG awS (.lst [])
 have h25:(upd H24 l25 (.lst [])) l25=some (.lst []):=zB
 refine fun x3 d3 nx3 nd3 ne3=>?_
 have sm3:=yW nx3 nd3 (.ins A.jR d3 [])
 refine⟨x3,d3,_,_,lr,l25,ys++[.ref xc],[],rfl,zB,sm3 _ _ (s25 _ _ adP),sm3 _ _ h25,fun q3 q4 H26 n34 hq3 hq4 F26 hx3 awU awV=>⟨rfl,?_⟩⟩
 have s26:az H24 H26:=fun b o hb'=>F26 _ _ (sm3 _ _ (s25 _ _ hb')) (Bc (zI (s25 _ _ hb') nx3))
 have awW:ShR A H26 (.ref x3) (sh1 ns ks qn):=⟨x3,d3,q3,q4,_,[],rfl,hx3,awU,awV,yE (zJ VM fun _ _ r=>r.same s26) (.cons (adL.same s26) .nil),.nil⟩
 refine hN _ _ ?_
 dsimp only [bC,List.set_cons_succ,List.set_cons_zero]
 refine yX fun _ hN=>?_
 refine⟨_,rfl,_,rfl,(by show 2≤sizeLine;decide),fun l27 awX=>?_⟩
 have s27:=zG awX (.lst [.ref x3,.ref x2])
 have h27:(upd H26 l27 (.lst [.ref x3,.ref x2])) l27=some (.lst [.ref x3,.ref x2]):=zB
 generalize upd H26 l27 (.lst [.ref x3,.ref x2])=H27 at s27 h27
 have mX:=vO _ (afM.trans (s26.trans s27))
 refine⟨_,rfl,a,ns,10,rfl,mX.1,by decide,mX.2.1,mX.2.2,_,rfl,(by show 2≤sizeLine;decide),fun t28 awZ=>⟨(by show 1≤sizeLine;decide),fun l29 aw1=>?_⟩⟩
 have s28:=zG awZ (.tup [.str (fj (aq ns 0) 10),.ref lp])
 have h28:(upd H27 t28 (.tup [.str (fj (aq ns 0) 10),.ref lp])) t28=some (.tup [.str (fj (aq ns 0) 10),.ref lp]):=zB
 have s29:=zG aw1 (.lst [.ref t28])
 have h29:(upd (upd H27 t28 (.tup [.str (fj (aq ns 0) 10),.ref lp])) l29 (.lst [.ref t28])) l29=some (.lst [.ref t28]):=zB
 refine fun x4 d4 nx4 nd4 ne4=>?_
 have sm4:=yW nx4 nd4 (.ins A.jr d4 [])
 refine⟨x4,d4,_,l27,l29,[.ref x3,.ref x2],tsP ns ks,rfl,zB,sm4 _ _ ((s28.trans s29) _ _ h27),⟨[.ref t28],sm4 _ _ h29,.cons ⟨t28,lp,rfl,(s29.trans sm4) _ _ h28,adM.kp (.of (s26.trans (s27.trans (s28.trans (s29.trans sm4)))))⟩ .nil⟩,(by show 1≤100;decide),fun q5 q6 H30 F30 hx4 aw2 hts=>⟨rfl,?_⟩⟩
 have s30:az H27 H30:=fun b o hb'=>F30 _ _ (sm4 _ _ ((s28.trans s29) _ _ hb')) (Bc (zI ((s28.trans s29) _ _ hb') nx4))
 have hPa:O5 A H30 x4 (PL ns ks qn kd sy (JZ ns (cL ns))) (tsP ns ks):=⟨d4,_,q5,q6,[.ref x3,.ref x2],hx4,aw2,.cons (awW.same (s27.trans s30)) (.cons (aj7.same (s26.trans (s27.trans s30))) .nil),hts⟩
 have adR:=s26.trans (s27.trans s30)
 have adS:=adR _ _ adN
 have aka:=zJ adO fun _ _ r=>O6.lk (.of adR) r
 have L:LP ns ks qn sy (JZ ns (cL ns)) (LK ns (nA ns)) (cL ns):=⟨⟨k0,k1,k2,k3,k4,hkL⟩,hq5,hyn,hkw,ajY,ajZ,(by rw [vQ];omega),rfl⟩
 refine hN _ _ ?_
 dsimp only [bC,List.set_cons_succ,List.set_cons_zero]
 obtain⟨TL,tl,fl⟩:=afF (RK ns ks (LK ns (nA ns)) (cL ns)).head?
 obtain⟨x0,hx0,hf0⟩:=lB aka (acS _)
 obtain⟨tz,rfl,ht0⟩:=tl _ _ hf0
 refine⟨_,rfl,x4,_,_,rfl,hPa,L.pap,fun x G8 t9 hx=>?_⟩
 rw [L.fl] at hx
 obtain⟨t1',rfl,aw4⟩:=tl _ _ hx
 refine⟨_,rfl,ld,_,_,_,rfl,rfl,cB.of (t9 _ _ adS),xE (j:=0) hx0,_,Mw (jJ.of aw4) (jJ.of (t9 _ _ ht0)) fl fl,_,rfl,?_⟩
 rw [Hv fl]
 refine cJ ⟨_,rfl,x4,_,_,rfl,hPa.same t9,L.pap,fun x G9 t10 hx=>?_⟩
 rw [L.fl] at hx
 obtain⟨t2',rfl,ae4⟩:=tl _ _ hx
 refine⟨_,rfl,ld,_,_,_,rfl,rfl,cB.of ((t9.trans t10) _ _ adS),xE (j:=0) hx0,_,Mw (jJ.of ae4) (jJ.of ((t9.trans t10) _ _ ht0)) fl fl,?_⟩
 rw [Hv fl]
 exact q _
end
end lV
set_option maxHeartbeats 4000000
namespace lV
open PySem L2
theorem Ux {us:List Value}{n:Nat} (h:us.length=n+1):∃ a r,us=a::r∧r.length=n:=by
 cases us with
 | nil=>cases h
 | cons a r=>exact⟨a,r,rfl,Nat.succ.inj h⟩
theorem el0 {us:List Value} (h:us.length=0):us=[]:=List.eq_nil_of_length_eq_zero h
@[elab_as_elim] theorem Ha {motive:List Value→Prop} (us:List Value) (hl:us.length=1) (h:∀ a,motive [a]):motive us:=by
 obtain⟨a,r0,e0,h0⟩:=Ux hl
 rw [e0,el0 h0]
 exact h a
@[elab_as_elim] theorem Bj {motive:List Value→Prop} (us:List Value) (hl:us.length=2) (h:∀ a b,motive [a,b]):motive us:=by
 obtain⟨a,r0,e0,h0⟩:=Ux hl
 obtain⟨b,r1,e1,h1⟩:=Ux h0
 rw [e0,e1,el0 h1]
 exact h a b
@[elab_as_elim] theorem VN {motive:List Value→Prop} (us:List Value) (hl:us.length=3) (h:∀ a b c,motive [a,b,c]):motive us:=by
 obtain⟨a,r0,e0,h0⟩:=Ux hl
 obtain⟨b,r1,e1,h1⟩:=Ux h0
 obtain⟨c,r2,e2,h2⟩:=Ux h1
 rw [e0,e1,e2,el0 h2]
 exact h a b c
@[elab_as_elim] theorem el4 {motive:List Value→Prop} (us:List Value) (hl:us.length=4) (h:∀ a b c d,motive [a,b,c,d]):motive us:=by
 obtain⟨a,r0,e0,h0⟩:=Ux hl
 obtain⟨b,r1,e1,h1⟩:=Ux h0
 obtain⟨c,r2,e2,h2⟩:=Ux h1
 obtain⟨d,r3,e3,h3⟩:=Ux h2
 rw [e0,e1,e2,e3,el0 h3]
 exact h a b c d
@[elab_as_elim] theorem el5 {motive:List Value→Prop} (us:List Value) (hl:us.length=5) (h:∀ a b c d e,motive [a,b,c,d,e]):motive us:=by
 obtain⟨a,r0,e0,h0⟩:=Ux hl
 obtain⟨b,r1,e1,h1⟩:=Ux h0
 obtain⟨c,r2,e2,h2⟩:=Ux h1
 obtain⟨d,r3,e3,h3⟩:=Ux h2
 obtain⟨e,r4,e4,h4⟩:=Ux h3
 rw [e0,e1,e2,e3,e4,el0 h4]
 exact h a b c d e
theorem afO {K:W.Frag}{h:Heap}{mg:Str→Option Value} (X:K.In h) (G:h.Ns mainGlobals mg)
{f0 f1 f2 f3 f4 f5 f6 f7 f8 f9 f10 f11 f12 f13 f14 f15 f16 f17 f18 f19 afP f20 f21 f22 afQ f23 afR f24 f25 f26 f27 f28 f29 f30 f31 f32 f33 f34 f35 f36 f37 f38 f39 f40 f41 f42 f43 f44 f45 f46 f47 f48 afS f49 f50 f51 f52 f53 f54 f55 f56 f57 f58 f59 f60 f61 f62 f63 f64 f65 f66 f67 f68 f69 f70:Addr}{od0 an0 od1 an1 od2 an2 od3 an3 od4 an4 od5 an5 od6 an6 od7 an7 od8 an8 od9 an9 aw5 akd aw6 ake aw7 akf aw8 akg aw9 akh axa aki axb akj axc akk axd akl axe akm axf axg akn axh ako axi akp axj axk akq axl axm akr axn aks axo akt axp aku axq akv axr akx axs aky axt akz axu akA axv akB axw akC axx akD axy akE axz akF axA akG axB akH axC akI axD akJ axE akK axF akL axG akM axH akN axI akO axJ akP axK akQ axL axM akR axN akS axO akT axP akU axQ akV axR akW axS akX axT akY axU akZ axV ak0 axW ak1 axX ak2 axY ak3 axZ ak4 ax0 ak5 ax1 ak6 ax2 ak7 ax3 ak8 ax4 ak9 ax5 ala ax6 alb ax7 alc:Option Addr}{sl0 sl1 sl2 sl3 sl4 sl5 sl6 sl7 sl8 sl9 ax8 ax9 aya ayb ayc ayd aye ayf ayg ayh ayi ayj ayk ayl aym ayn ayo ayp ayq ayr ays ayt ayu ayv ayw ayx ayy ayz ayA ayB ayC ayD ayE ayF ayG ayH ayI ayJ ayK ayL ayM ayN ayO ayP ayQ ayR ayS ayT ayU ayV ayW ayX ayY ayZ ay0 ay1 ay2 ay3 ay4 ay5 ay6 ay7 ay8 ay9 aza:Array (Option Value)}{oc0 kV0 dc0 pm0 cd0 ct0 oc1 kV1 dc1 pm1 cd1 ct1 oc2 kV2 dc2 pm2 cd2 ct2 oc3 kV3 dc3 pm3 cd3 ct3 oc4 kV4 dc4 pm4 cd4 ct4 oc5 kV5 dc5 pm5 cd5 ct5 oc6 kV6 dc6 pm6 cd6 ct6 oc7 kV7 dc7 pm7 cd7 ct7 oc8 kV8 dc8 pm8 cd8 ct8 oc9 kV9 dc9 pm9 cd9 ct9 azl ald ale alf afT alg azm alh ali alj afU alk azn alm aln alo afV alp azo alq alr als afW alu azp alv alw alx afX aly azq alz alA alB afY alC azr alD alE alF afZ alG azs alH alI alJ af0 alK azt alL alM alN af1 alO azu alP alQ alR af2 alS azv alT alU alV af3 alW azw alX alY alZ af4 al0 azx al1 al2 al3 af5 al4 azy al5 al6 al7 af6 al8 azz al9 ama amb af7 amc azA amd ame amf af8 amg azB amh ami amj af9 amk azC aml amm amn aga amo azD amq amr ams agb amt azE amu amv amw agc amx azF amy amz amA agd amB azG amC amD amE age amF azH amG amH amI agf amJ azI amK amL amM agg amN azJ amO amP amQ agh amR azK amS amT amU agi amV azL amW amX amY agj amZ azM am0 am1 am2 agk am3 azN am4 am5 am6 agl am7 azO am8 am9 ana agm anb azP anc ane anf agn ang azQ anh ani anj ago ank azR anl anm ano agp anp azS anq anr ant agq anu azT anv anw anx agr anz azU anA anB anC ags anD azV anE anF anG agt anH azW anI anJ anK agu anL azX anM anN anO agv anP azY anQ anR anS agw anT azZ anU anV anW agx anY az0 anZ aoa aob agy aoc az1 aod aoe aof agz aog az2 aoh aoi aoj agA aok az3 aol aom aon agB aoo az4 aop aoq aor agC aos az5 aot aou aov agD aow az6 aox aoy aoz agE aoA az7 aoB aoC aoD agF aoE az8 aoF aoG aoH agG aoI az9 aoJ aoK aoL agH aoM aAa aoN aoO aoP agI aoQ aAb aoR aoS aoT agJ aoU aAc aoV aoW aoX agK aoY aAd aoZ ao0 ao1 agL ao2 aAe ao3 ao4 ao5 agM ao6 aAf ao7 ao8 ao9 agN apa aAg apb apc apd agO ape aAh apf apg aph agP api aAi apj apk apl agQ apm aAj apn apo apq agR apr:Value}{aAk aAl aAm aAn:Nat}{aba:Tok}
 {ga0:Addr}{go0:Value}{gd0:Option Addr}{gn0:Nat}{ge0:Array DictEntry}{gs0:Array (Option Value)}
{jX bu mY fZ bO gR pD Dg cI bz pZ rC gb Pq iU bA dz vz Np RQ iy p6 aG aY aA aQ:Addr}{agS vA aps abb abd LR acW acX abe Uy abf Pr abg yu tK:ClassData}{JW Bk:Value}{Uz Pu:Option Addr}{yx tL:Array (Option Value)}
 (h8i:W.nsIn K mainGlobals "Ask" = some (some (.ref jX)))
 (h8j:W.nsIn K mainGlobals "AskError" = some (some (.ref bu)))
 (h8k:W.nsIn K mainGlobals "Both" = some (some (.ref mY)))
 (h8l:W.nsIn K mainGlobals "Check" = some (some (.ref fZ)))
 (h8m:W.nsIn K mainGlobals "Compare" = some (some (.ref bO)))
 (h8n:W.nsIn K mainGlobals "Either" = some (some (.ref gR)))
 (h8o:W.nsIn K mainGlobals "Is" = some (some (.ref pD)))
 (h8p:W.nsIn K mainGlobals "Kind" = some (some (.ref Dg)))
 (h8q:W.nsIn K mainGlobals "Money" = some (some (.ref cI)))
 (h8r:W.nsIn K mainGlobals "Names" = some (some (.ref bz)))
 (h8s:W.nsIn K mainGlobals "NoWay" = some (some (.ref pZ)))
 (h8t:W.nsIn K mainGlobals "Not" = some (some (.ref rC)))
 (h8u:W.nsIn K mainGlobals "OutOfReach" = some (some (.ref gb)))
 (h8v:W.nsIn K mainGlobals "Pair" = some (some (.ref Pq)))
 (h8w:W.nsIn K mainGlobals "Paper" = some (some (.ref iU)))
 (h8x:W.nsIn K mainGlobals "Pick" = some (some (.ref bA)))
 (h8y:W.nsIn K mainGlobals "Reach" = some (some (.ref dz)))
 (h8z:W.nsIn K mainGlobals "Ring" = some (some (.ref vz)))
 (h90:W.nsIn K mainGlobals "Row" = some (some (.ref Np)))
 (h91:W.nsIn K mainGlobals "Saying" = some (some (.ref RQ)))
 (h92:W.nsIn K mainGlobals "Sheet" = some (some (.ref iy)))
 (h93:W.nsIn K mainGlobals "Twice" = some (some (.ref p6)))
 (h94:W.nsIn K mainGlobals "Unknown" = some (some (.ref aG)))
 (h95:W.nsIn K mainGlobals "Whole" = some (some (.ref aY)))
 (h96:W.nsIn K mainGlobals "WrongKind" = some (some (.ref aA)))
 (h97:W.nsIn K mainGlobals "YesNo" = some (some (.ref aQ)))
 (h00:W.findIn K (.ref aG) "__init__" = some (some (.ref f0)))
 (h01:K.lookup f0=some ⟨oc0,od0,.func (W.fnOf "__init__" "Unknown.__init__" (ak aZ) (aj aZ) (aa aZ) .none kV0 dc0 pm0 an0 cd0 ct0),sl0⟩)
 (h02:W.codeIn K cd0 "Unknown.__init__" = true)
 (h03:W.keepIn K (.ref f0)=true)
 (h04:W.findIn K (.ref aA) "__init__" = some (some (.ref f1)))
 (h05:K.lookup f1=some ⟨oc1,od1,.func (W.fnOf "__init__" "WrongKind.__init__" (ak aR) (aj aR) (aa aR) .none kV1 dc1 pm1 an1 cd1 ct1),sl1⟩)
 (h06:W.codeIn K cd1 "WrongKind.__init__" = true)
 (h07:W.keepIn K (.ref f1)=true)
 (h08:W.nsIn K mainGlobals "money_shown" = some (some (.ref f2)))
 (h09:K.lookup f2=some ⟨oc2,od2,.func (W.fnOf "money_shown" "money_shown" (ak dB) (aj dB) (aa dB) .none kV2 dc2 pm2 an2 cd2 ct2),sl2⟩)
 (h0a:W.codeIn K cd2 "money_shown" = true)
 (h0b:W.keepIn K (.ref f2)=true)
 (h0c:W.findIn K (.ref Dg) "__init__" = some (some (.ref f3)))
 (h0d:K.lookup f3=some ⟨oc3,od3,.func (W.fnOf "__init__" "Kind.__init__" (ak bU) (aj bU) (aa bU) .none kV3 dc3 pm3 an3 cd3 ct3),sl3⟩)
 (h0e:W.codeIn K cd3 "Kind.__init__" = true)
 (h0f:W.keepIn K (.ref f3)=true)
 (h0g:W.findIn K (.ref aQ) "__init__" = some (some (.ref f4)))
 (h0h:K.lookup f4=some ⟨oc4,od4,.func (W.fnOf "__init__" "YesNo.__init__" (ak bF) (aj bF) (aa bF) .none kV4 dc4 pm4 an4 cd4 ct4),sl4⟩)
 (h0i:W.codeIn K cd4 "YesNo.__init__" = true)
 (h0j:W.keepIn K (.ref f4)=true)
 (h0k:W.findIn K (.ref aQ) "fits" = some (some (.ref f5)))
 (h0l:K.lookup f5=some ⟨oc5,od5,.func (W.fnOf "fits" "YesNo.fits" (ak cM) (aj cM) (aa cM) .none kV5 dc5 pm5 an5 cd5 ct5),sl5⟩)
 (h0m:W.codeIn K cd5 "YesNo.fits" = true)
 (h0n:W.keepIn K (.ref f5)=true)
 (h0o:W.findIn K (.ref aQ) "answer_of" = some (some (.ref f6)))
 (h0p:K.lookup f6=some ⟨oc6,od6,.func (W.fnOf "answer_of" "YesNo.answer_of" (ak aU) (aj aU) (aa aU) .none kV6 dc6 pm6 an6 cd6 ct6),sl6⟩)
 (h0q:W.codeIn K cd6 "YesNo.answer_of" = true)
 (h0r:W.keepIn K (.ref f6)=true)
 (h0s:W.findIn K (.ref aQ) "rank" = some (some (.ref f7)))
 (h0t:K.lookup f7=some ⟨oc7,od7,.func (W.fnOf "rank" "YesNo.rank" (ak cN) (aj cN) (aa cN) .none kV7 dc7 pm7 an7 cd7 ct7),sl7⟩)
 (h0u:W.codeIn K cd7 "YesNo.rank" = true)
 (h0v:W.keepIn K (.ref f7)=true)
 (h0w:W.findIn K (.ref aQ) "told" = some (some (.ref f8)))
 (h0x:K.lookup f8=some ⟨oc8,od8,.func (W.fnOf "told" "YesNo.told" (ak cO) (aj cO) (aa cO) .none kV8 dc8 pm8 an8 cd8 ct8),sl8⟩)
 (h0y:W.codeIn K cd8 "YesNo.told" = true)
 (h0z:W.keepIn K (.ref f8)=true)
 (h10:W.findIn K (.ref aY) "shown" = some (some (.ref f9)))
 (h11:K.lookup f9=some ⟨oc9,od9,.func (W.fnOf "shown" "Whole.shown" (ak bV) (aj bV) (aa bV) .none kV9 dc9 pm9 an9 cd9 ct9),sl9⟩)
 (h12:W.codeIn K cd9 "Whole.shown" = true)
 (h13:W.keepIn K (.ref f9)=true)
 (h14:W.findIn K (.ref aY) "bounds" = some (some (.ref f10)))
 (h15:K.lookup f10=some ⟨azl,aw5,.func (W.fnOf "bounds" "Whole.bounds" (ak bG) (aj bG) (aa bG) .none ald ale alf akd afT alg),ax8⟩)
 (h16:W.codeIn K afT "Whole.bounds" = true)
 (h17:W.keepIn K (.ref f10)=true)
 (h18:W.findIn K (.ref aY) "told" = some (some (.ref f11)))
 (h19:K.lookup f11=some ⟨azm,aw6,.func (W.fnOf "told" "Whole.told" (ak cQ) (aj cQ) (aa cQ) .none alh ali alj ake afU alk),ax9⟩)
 (h1a:W.codeIn K afU "Whole.told" = true)
 (h1b:W.keepIn K (.ref f11)=true)
 (h1c:W.findIn K (.ref cI) "shown" = some (some (.ref f12)))
 (h1d:K.lookup f12=some ⟨azn,aw7,.func (W.fnOf "shown" "Money.shown" (ak bW) (aj bW) (aa bW) .none alm aln alo akf afV alp),aya⟩)
 (h1e:W.codeIn K afV "Money.shown" = true)
 (h1f:W.keepIn K (.ref f12)=true)
 (h1g:W.findIn K (.ref cI) "told" = some (some (.ref f13)))
 (h1h:K.lookup f13=some ⟨azo,aw8,.func (W.fnOf "told" "Money.told" (ak cR) (aj cR) (aa cR) .none alq alr als akg afW alu),ayb⟩)
 (h1i:W.codeIn K afW "Money.told" = true)
 (h1j:W.keepIn K (.ref f13)=true)
 (h1k:W.findIn K (.ref bA) "__init__" = some (some (.ref f14)))
 (h1l:K.lookup f14=some ⟨azp,aw9,.func (W.fnOf "__init__" "Pick.__init__" (ak bY) (aj bY) (aa bY) .none alv alw alx akh afX aly),ayc⟩)
 (h1m:W.codeIn K afX "Pick.__init__" = true)
 (h1n:W.keepIn K (.ref f14)=true)
 (h1o:W.findIn K (.ref bA) "fits" = some (some (.ref f15)))
 (h1p:K.lookup f15=some ⟨azq,axa,.func (W.fnOf "fits" "Pick.fits" (ak dC) (aj dC) (aa dC) .none alz alA alB aki afY alC),ayd⟩)
 (h1q:W.codeIn K afY "Pick.fits" = true)
 (h1r:W.keepIn K (.ref f15)=true)
 (h1s:W.findIn K (.ref bA) "answer_of" = some (some (.ref f16)))
 (h1t:K.lookup f16=some ⟨azr,axb,.func (W.fnOf "answer_of" "Pick.answer_of" (ak bc) (aj bc) (aa bc) .none alD alE alF akj afZ alG),aye⟩)
 (h1u:W.codeIn K afZ "Pick.answer_of" = true)
 (h1v:W.keepIn K (.ref f16)=true)
 (h1w:W.findIn K (.ref bA) "rank" = some (some (.ref f17)))
 (h1x:K.lookup f17=some ⟨azs,axc,.func (W.fnOf "rank" "Pick.rank" (ak dD) (aj dD) (aa dD) .none alH alI alJ akk af0 alK),ayf⟩)
 (h1y:W.codeIn K af0 "Pick.rank" = true)
 (h1z:W.keepIn K (.ref f17)=true)
 (h20:W.findIn K (.ref bA) "told" = some (some (.ref f18)))
 (h21:K.lookup f18=some ⟨azt,axd,.func (W.fnOf "told" "Pick.told" (ak dF) (aj dF) (aa dF) .none alL alM alN akl af1 alO),ayg⟩)
 (h22:W.codeIn K af1 "Pick.told" = true)
 (h23:W.keepIn K (.ref f18)=true)
 (h24:W.findIn K (.ref bz) "__init__" = some (some (.ref f19)))
 (h25:K.lookup f19=some ⟨azu,axe,.func (W.fnOf "__init__" "Names.__init__" (ak bH) (aj bH) (aa bH) (.ref afP) alP alQ alR akm af2 alS),ayh⟩)
 (h26:W.codeIn K af2 "Names.__init__" = true)
 (h27:W.keepIn K (.ref f19)=true)
 (h28:K.lookup afP=some ⟨.type "tuple",axf,.seq ([(.int 3 aba)]:List Value).toArray aAk,ayi⟩)
 (h29:W.findIn K (.ref bz) "told" = some (some (.ref f20)))
 (h2a:K.lookup f20=some ⟨azv,axg,.func (W.fnOf "told" "Names.told" (ak cT) (aj cT) (aa cT) .none alT alU alV akn af3 alW),ayj⟩)
 (h2b:W.codeIn K af3 "Names.told" = true)
 (h2c:W.keepIn K (.ref f20)=true)
 (h2d:W.findIn K (.ref Np) "__init__" = some (some (.ref f21)))
 (h2e:K.lookup f21=some ⟨azw,axh,.func (W.fnOf "__init__" "Row.__init__" (ak cU) (aj cU) (aa cU) .none alX alY alZ ako af4 al0),ayk⟩)
 (h2f:W.codeIn K af4 "Row.__init__" = true)
 (h2g:W.keepIn K (.ref f21)=true)
 (h2h:W.findIn K (.ref jX) "__init__" = some (some (.ref f22)))
 (h2i:K.lookup f22=some ⟨azx,axi,.func (W.fnOf "__init__" "Ask.__init__" (ak bR) (aj bR) (aa bR) (.ref afQ) al1 al2 al3 akp af5 al4),ayl⟩)
 (h2j:W.codeIn K af5 "Ask.__init__" = true)
 (h2k:W.keepIn K (.ref f22)=true)
 (h2l:K.lookup afQ=some ⟨.type "tuple",axj,.seq ([.none]:List Value).toArray aAl,aym⟩)
 (h2m:W.findIn K (.ref fZ) "__init__" = some (some (.ref f23)))
 (h2n:K.lookup f23=some ⟨azy,axk,.func (W.fnOf "__init__" "Check.__init__" (ak bI) (aj bI) (aa bI) (.ref afR) al5 al6 al7 akq af6 al8),ayn⟩)
 (h2o:W.codeIn K af6 "Check.__init__" = true)
 (h2p:W.keepIn K (.ref f23)=true)
 (h2q:K.lookup afR=some ⟨.type "tuple",axl,.seq ([(.bool true)]:List Value).toArray aAm,ayo⟩)
 (h2r:W.findIn K (.ref iy) "__init__" = some (some (.ref f24)))
 (h2s:K.lookup f24=some ⟨azz,axm,.func (W.fnOf "__init__" "Sheet.__init__" (ak bJ) (aj bJ) (aa bJ) .none al9 ama amb akr af7 amc),ayp⟩)
 (h2t:W.codeIn K af7 "Sheet.__init__" = true)
 (h2u:W.keepIn K (.ref f24)=true)
 (h2v:W.findIn K (.ref iU) "__init__" = some (some (.ref f25)))
 (h2w:K.lookup f25=some ⟨azA,axn,.func (W.fnOf "__init__" "Paper.__init__" (ak bK) (aj bK) (aa bK) .none amd ame amf aks af8 amg),ayq⟩)
 (h2x:W.codeIn K af8 "Paper.__init__" = true)
 (h2y:W.keepIn K (.ref f25)=true)
 (h2z:W.nsIn K mainGlobals "kinds_of" = some (some (.ref f26)))
 (h30:K.lookup f26=some ⟨azB,axo,.func (W.fnOf "kinds_of" "kinds_of" (ak gf) (aj gf) (aa gf) .none amh ami amj akt af9 amk),ayr⟩)
 (h31:W.codeIn K af9 "kinds_of" = true)
 (h32:W.keepIn K (.ref f26)=true)
 (h33:W.nsIn K mainGlobals "gathered" = some (some (.ref f27)))
 (h34:K.lookup f27=some ⟨azC,axp,.func (W.fnOf "gathered" "gathered" (ak gh) (aj gh) (aa gh) .none aml amm amn aku aga amo),ays⟩)
 (h35:W.codeIn K aga "gathered" = true)
 (h36:W.keepIn K (.ref f27)=true)
 (h37:W.nsIn K mainGlobals "questions_of" = some (some (.ref f28)))
 (h38:K.lookup f28=some ⟨azD,axq,.func (W.fnOf "questions_of" "questions_of" (ak cV) (aj cV) (aa cV) .none amq amr ams akv agb amt),ayt⟩)
 (h39:W.codeIn K agb "questions_of" = true)
 (h3a:W.keepIn K (.ref f28)=true)
 (h3b:W.nsIn K mainGlobals "names_given" = some (some (.ref f29)))
 (h3c:K.lookup f29=some ⟨azE,axr,.func (W.fnOf "names_given" "names_given" (ak dG) (aj dG) (aa dG) .none amu amv amw akx agc amx),ayu⟩)
 (h3d:W.codeIn K agc "names_given" = true)
 (h3e:W.keepIn K (.ref f29)=true)
 (h3f:W.nsIn K mainGlobals "look_for_twice" = some (some (.ref f30)))
 (h3g:K.lookup f30=some ⟨azF,axs,.func (W.fnOf "look_for_twice" "look_for_twice" (ak bL) (aj bL) (aa bL) .none amy amz amA aky agd amB),ayv⟩)
 (h3h:W.codeIn K agd "look_for_twice" = true)
 (h3i:W.keepIn K (.ref f30)=true)
 (h3j:W.nsIn K mainGlobals "saying_of" = some (some (.ref f31)))
 (h3k:K.lookup f31=some ⟨azG,axt,.func (W.fnOf "saying_of" "saying_of" (ak eO) (aj eO) (aa eO) .none amC amD amE akz age amF),ayw⟩)
 (h3l:W.codeIn K age "saying_of" = true)
 (h3m:W.keepIn K (.ref f31)=true)
 (h3n:W.nsIn K mainGlobals "atoms_of" = some (some (.ref f32)))
 (h3o:K.lookup f32=some ⟨azH,axu,.func (W.fnOf "atoms_of" "atoms_of" (ak gj) (aj gj) (aa gj) .none amG amH amI akA agf amJ),ayx⟩)
 (h3p:W.codeIn K agf "atoms_of" = true)
 (h3q:W.keepIn K (.ref f32)=true)
 (h3r:W.nsIn K mainGlobals "look_at_each" = some (some (.ref f33)))
 (h3s:K.lookup f33=some ⟨azI,axv,.func (W.fnOf "look_at_each" "look_at_each" (ak cX) (aj cX) (aa cX) .none amK amL amM akB agg amN),ayy⟩)
 (h3t:W.codeIn K agg "look_at_each" = true)
 (h3u:W.keepIn K (.ref f33)=true)
 (h3v:W.nsIn K mainGlobals "look_at_atoms" = some (some (.ref f34)))
 (h3w:K.lookup f34=some ⟨azJ,axw,.func (W.fnOf "look_at_atoms" "look_at_atoms" (ak bZ) (aj bZ) (aa bZ) .none amO amP amQ akC agh amR),ayz⟩)
 (h3x:W.codeIn K agh "look_at_atoms" = true)
 (h3y:W.keepIn K (.ref f34)=true)
 (h3z:W.nsIn K mainGlobals "look_at_parts" = some (some (.ref f35)))
 (h40:K.lookup f35=some ⟨azK,axx,.func (W.fnOf "look_at_parts" "look_at_parts" (ak b7) (aj b7) (aa b7) .none amS amT amU akD agi amV),ayA⟩)
 (h41:W.codeIn K agi "look_at_parts" = true)
 (h42:W.keepIn K (.ref f35)=true)
 (h43:W.nsIn K mainGlobals "look_at_names" = some (some (.ref f36)))
 (h44:K.lookup f36=some ⟨azL,axy,.func (W.fnOf "look_at_names" "look_at_names" (ak b8) (aj b8) (aa b8) .none amW amX amY akE agj amZ),ayB⟩)
 (h45:W.codeIn K agj "look_at_names" = true)
 (h46:W.keepIn K (.ref f36)=true)
 (h47:W.nsIn K mainGlobals "sums_in" = some (some (.ref f37)))
 (h48:K.lookup f37=some ⟨azM,axz,.func (W.fnOf "sums_in" "sums_in" (ak gU) (aj gU) (aa gU) .none am0 am1 am2 akF agk am3),ayC⟩)
 (h49:W.codeIn K agk "sums_in" = true)
 (h4a:W.keepIn K (.ref f37)=true)
 (h4b:W.nsIn K mainGlobals "look_for_ring" = some (some (.ref f38)))
 (h4c:K.lookup f38=some ⟨azN,axA,.func (W.fnOf "look_for_ring" "look_for_ring" (ak cg) (aj cg) (aa cg) .none am4 am5 am6 akG agl am7),ayD⟩)
 (h4d:W.codeIn K agl "look_for_ring" = true)
 (h4e:W.keepIn K (.ref f38)=true)
 (h4f:W.findIn K (.ref dz) "__init__" = some (some (.ref f39)))
 (h4g:K.lookup f39=some ⟨azO,axB,.func (W.fnOf "__init__" "Reach.__init__" (ak bM) (aj bM) (aa bM) .none am8 am9 ana akH agm anb),ayE⟩)
 (h4h:W.codeIn K agm "Reach.__init__" = true)
 (h4i:W.keepIn K (.ref f39)=true)
 (h4j:W.findIn K (.ref dz) "comes_again" = some (some (.ref f40)))
 (h4k:K.lookup f40=some ⟨azP,axC,.func (W.fnOf "comes_again" "Reach.comes_again" (ak aK) (aj aK) (aa aK) .none anc ane anf akI agn ang),ayF⟩)
 (h4l:W.codeIn K agn "Reach.comes_again" = true)
 (h4m:W.keepIn K (.ref f40)=true)
 (h4n:W.findIn K (.ref dz) "is_within" = some (some (.ref f41)))
 (h4o:K.lookup f41=some ⟨azQ,axD,.func (W.fnOf "is_within" "Reach.is_within" (ak aV) (aj aV) (aa aV) .none anh ani anj akJ ago ank),ayG⟩)
 (h4p:W.codeIn K ago "Reach.is_within" = true)
 (h4q:W.keepIn K (.ref f41)=true)
 (h4r:W.findIn K (.ref dz) "reaches_question" = some (some (.ref f42)))
 (h4s:K.lookup f42=some ⟨azR,axE,.func (W.fnOf "reaches_question" "Reach.reaches_question" (ak aC) (aj aC) (aa aC) .none anl anm ano akK agp anp),ayH⟩)
 (h4t:W.codeIn K agp "Reach.reaches_question" = true)
 (h4u:W.keepIn K (.ref f42)=true)
 (h4v:W.findIn K (.ref dz) "reaches_sum" = some (some (.ref f43)))
 (h4w:K.lookup f43=some ⟨azS,axF,.func (W.fnOf "reaches_sum" "Reach.reaches_sum" (ak aL) (aj aL) (aa aL) .none anq anr ant akL agq anu),ayI⟩)
 (h4x:W.codeIn K agq "Reach.reaches_sum" = true)
 (h4y:W.keepIn K (.ref f43)=true)
 (h4z:W.findIn K (.ref dz) "look_at_saying" = some (some (.ref f44)))
 (h50:K.lookup f44=some ⟨azT,axG,.func (W.fnOf "look_at_saying" "Reach.look_at_saying" (ak aF) (aj aF) (aa aF) .none anv anw anx akM agr anz),ayJ⟩)
 (h51:W.codeIn K agr "Reach.look_at_saying" = true)
 (h52:W.keepIn K (.ref f44)=true)
 (h53:W.findIn K (.ref dz) "look_at_sheet" = some (some (.ref f45)))
 (h54:K.lookup f45=some ⟨azU,axH,.func (W.fnOf "look_at_sheet" "Reach.look_at_sheet" (ak aJ) (aj aJ) (aa aJ) .none anA anB anC akN ags anD),ayK⟩)
 (h55:W.codeIn K ags "Reach.look_at_sheet" = true)
 (h56:W.keepIn K (.ref f45)=true)
 (h57:W.nsIn K mainGlobals "look_for_reach" = some (some (.ref f46)))
 (h58:K.lookup f46=some ⟨azV,axI,.func (W.fnOf "look_for_reach" "look_for_reach" (ak bN) (aj bN) (aa bN) .none anE anF anG akO agt anH),ayL⟩)
 (h59:W.codeIn K agt "look_for_reach" = true)
 (h5a:W.keepIn K (.ref f46)=true)
 (h5b:W.nsIn K mainGlobals "look_at" = some (some (.ref f47)))
 (h5c:K.lookup f47=some ⟨azW,axJ,.func (W.fnOf "look_at" "look_at" (ak gW) (aj gW) (aa gW) .none anI anJ anK akP agu anL),ayM⟩)
 (h5d:W.codeIn K agu "look_at" = true)
 (h5e:W.keepIn K (.ref f47)=true)
 (h5f:W.findIn K (.ref pD) "__init__" = some (some (.ref f48)))
 (h5g:K.lookup f48=some ⟨azX,axK,.func (W.fnOf "__init__" "Is.__init__" (ak cY) (aj cY) (aa cY) (.ref afS) anM anN anO akQ agv anP),ayN⟩)
 (h5h:W.codeIn K agv "Is.__init__" = true)
 (h5i:W.keepIn K (.ref f48)=true)
 (h5j:K.lookup afS=some ⟨.type "tuple",axL,.seq ([.none]:List Value).toArray aAn,ayO⟩)
 (h5k:W.findIn K (.ref pD) "atoms" = some (some (.ref f49)))
 (h5l:K.lookup f49=some ⟨azY,axM,.func (W.fnOf "atoms" "Is.atoms" (ak dY) (aj dY) (aa dY) .none anQ anR anS akR agw anT),ayP⟩)
 (h5m:W.codeIn K agw "Is.atoms" = true)
 (h5n:W.keepIn K (.ref f49)=true)
 (h5o:W.findIn K (.ref pD) "settled" = some (some (.ref f50)))
 (h5p:K.lookup f50=some ⟨azZ,axN,.func (W.fnOf "settled" "Is.settled" (ak cZ) (aj cZ) (aa cZ) .none anU anV anW akS agx anY),ayQ⟩)
 (h5q:W.codeIn K agx "Is.settled" = true)
 (h5r:W.keepIn K (.ref f50)=true)
 (h5s:W.findIn K (.ref bO) "__init__" = some (some (.ref f51)))
 (h5t:K.lookup f51=some ⟨az0,axO,.func (W.fnOf "__init__" "Compare.__init__" (ak bf) (aj bf) (aa bf) .none anZ aoa aob akT agy aoc),ayR⟩)
 (h5u:W.codeIn K agy "Compare.__init__" = true)
 (h5v:W.keepIn K (.ref f51)=true)
 (h5w:W.findIn K (.ref bO) "atoms" = some (some (.ref f52)))
 (h5x:K.lookup f52=some ⟨az1,axP,.func (W.fnOf "atoms" "Compare.atoms" (ak bx) (aj bx) (aa bx) .none aod aoe aof akU agz aog),ayS⟩)
 (h5y:W.codeIn K agz "Compare.atoms" = true)
 (h5z:W.keepIn K (.ref f52)=true)
 (h60:W.findIn K (.ref bO) "settled" = some (some (.ref f53)))
 (h61:K.lookup f53=some ⟨az2,axQ,.func (W.fnOf "settled" "Compare.settled" (ak aW) (aj aW) (aa aW) .none aoh aoi aoj akV agA aok),ayT⟩)
 (h62:W.codeIn K agA "Compare.settled" = true)
 (h63:W.keepIn K (.ref f53)=true)
 (h64:W.findIn K (.ref rC) "__init__" = some (some (.ref f54)))
 (h65:K.lookup f54=some ⟨az3,axR,.func (W.fnOf "__init__" "Not.__init__" (ak dg) (aj dg) (aa dg) .none aol aom aon akW agB aoo),ayU⟩)
 (h66:W.codeIn K agB "Not.__init__" = true)
 (h67:W.keepIn K (.ref f54)=true)
 (h68:W.findIn K (.ref rC) "atoms" = some (some (.ref f55)))
 (h69:K.lookup f55=some ⟨az4,axS,.func (W.fnOf "atoms" "Not.atoms" (ak dH) (aj dH) (aa dH) .none aop aoq aor akX agC aos),ayV⟩)
 (h6a:W.codeIn K agC "Not.atoms" = true)
 (h6b:W.keepIn K (.ref f55)=true)
 (h6c:W.findIn K (.ref Pq) "__init__" = some (some (.ref f56)))
 (h6d:K.lookup f56=some ⟨az5,axT,.func (W.fnOf "__init__" "Pair.__init__" (ak cj) (aj cj) (aa cj) .none aot aou aov akY agD aow),ayW⟩)
 (h6e:W.codeIn K agD "Pair.__init__" = true)
 (h6f:W.keepIn K (.ref f56)=true)
 (h6g:W.findIn K (.ref Pq) "atoms" = some (some (.ref f57)))
 (h6h:K.lookup f57=some ⟨az6,axU,.func (W.fnOf "atoms" "Pair.atoms" (ak dh) (aj dh) (aa dh) .none aox aoy aoz akZ agE aoA),ayX⟩)
 (h6i:W.codeIn K agE "Pair.atoms" = true)
 (h6j:W.keepIn K (.ref f57)=true)
 (h6k:W.nsIn K mainGlobals "_law_cell" = some (some (.ref f58)))
 (h6l:K.lookup f58=some ⟨az7,axV,.func (W.fnOf "_law_cell" "_law_cell" (ak gm) (aj gm) (aa gm) .none aoB aoC aoD ak0 agF aoE),ayY⟩)
 (h6m:W.codeIn K agF "_law_cell" = true)
 (h6n:W.keepIn K (.ref f58)=true)
 (h6o:W.nsIn K mainGlobals "_law_name" = some (some (.ref f59)))
 (h6p:K.lookup f59=some ⟨az8,axW,.func (W.fnOf "_law_name" "_law_name" (ak gn) (aj gn) (aa gn) .none aoF aoG aoH ak1 agG aoI),ayZ⟩)
 (h6q:W.codeIn K agG "_law_name" = true)
 (h6r:W.keepIn K (.ref f59)=true)
 (h6s:W.nsIn K mainGlobals "_law_alone" = some (some (.ref f60)))
 (h6t:K.lookup f60=some ⟨az9,axX,.func (W.fnOf "_law_alone" "_law_alone" (ak eQ) (aj eQ) (aa eQ) .none aoJ aoK aoL ak2 agH aoM),ay0⟩)
 (h6u:W.codeIn K agH "_law_alone" = true)
 (h6v:W.keepIn K (.ref f60)=true)
 (h6w:W.nsIn K mainGlobals "_law_fault" = some (some (.ref f61)))
 (h6x:K.lookup f61=some ⟨aAa,axY,.func (W.fnOf "_law_fault" "_law_fault" (ak eU) (aj eU) (aa eU) .none aoN aoO aoP ak3 agI aoQ),ay1⟩)
 (h6y:W.codeIn K agI "_law_fault" = true)
 (h6z:W.keepIn K (.ref f61)=true)
 (h70:W.nsIn K mainGlobals "_law_kinds" = some (some (.ref f62)))
 (h71:K.lookup f62=some ⟨aAb,axZ,.func (W.fnOf "_law_kinds" "_law_kinds" (ak eV) (aj eV) (aa eV) .none aoR aoS aoT ak4 agJ aoU),ay2⟩)
 (h72:W.codeIn K agJ "_law_kinds" = true)
 (h73:W.keepIn K (.ref f62)=true)
 (h74:W.nsIn K mainGlobals "_law_named" = some (some (.ref f63)))
 (h75:K.lookup f63=some ⟨aAc,ax0,.func (W.fnOf "_law_named" "_law_named" (ak eY) (aj eY) (aa eY) .none aoV aoW aoX ak5 agK aoY),ay3⟩)
 (h76:W.codeIn K agK "_law_named" = true)
 (h77:W.keepIn K (.ref f63)=true)
 (h78:W.nsIn K mainGlobals "_law_atom" = some (some (.ref f64)))
 (h79:K.lookup f64=some ⟨aAd,ax1,.func (W.fnOf "_law_atom" "_law_atom" (ak gq) (aj gq) (aa gq) .none aoZ ao0 ao1 ak6 agL ao2),ay4⟩)
 (h7a:W.codeIn K agL "_law_atom" = true)
 (h7b:W.keepIn K (.ref f64)=true)
 (h7c:W.nsIn K mainGlobals "_law_what" = some (some (.ref f65)))
 (h7d:K.lookup f65=some ⟨aAe,ax2,.func (W.fnOf "_law_what" "_law_what" (ak gr) (aj gr) (aa gr) .none ao3 ao4 ao5 ak7 agM ao6),ay5⟩)
 (h7e:W.codeIn K agM "_law_what" = true)
 (h7f:W.keepIn K (.ref f65)=true)
 (h7g:W.nsIn K mainGlobals "_law_due" = some (some (.ref f66)))
 (h7h:K.lookup f66=some ⟨aAf,ax3,.func (W.fnOf "_law_due" "_law_due" (ak gY) (aj gY) (aa gY) .none ao7 ao8 ao9 ak8 agN apa),ay6⟩)
 (h7i:W.codeIn K agN "_law_due" = true)
 (h7j:W.keepIn K (.ref f66)=true)
 (h7k:W.nsIn K mainGlobals "_law_saying" = some (some (.ref f67)))
 (h7l:K.lookup f67=some ⟨aAg,ax4,.func (W.fnOf "_law_saying" "_law_saying" (ak dZ) (aj dZ) (aa dZ) .none apb apc apd ak9 agO ape),ay7⟩)
 (h7m:W.codeIn K agO "_law_saying" = true)
 (h7n:W.keepIn K (.ref f67)=true)
 (h7o:W.nsIn K mainGlobals "_law_each" = some (some (.ref f68)))
 (h7p:K.lookup f68=some ⟨aAh,ax5,.func (W.fnOf "_law_each" "_law_each" (ak gw) (aj gw) (aa gw) .none apf apg aph ala agP api),ay8⟩)
 (h7q:W.codeIn K agP "_law_each" = true)
 (h7r:W.keepIn K (.ref f68)=true)
 (h7s:W.nsIn K mainGlobals "_law_parts" = some (some (.ref f69)))
 (h7t:K.lookup f69=some ⟨aAi,ax6,.func (W.fnOf "_law_parts" "_law_parts" (ak eZ) (aj eZ) (aa eZ) .none apj apk apl alb agQ apm),ay9⟩)
 (h7u:W.codeIn K agQ "_law_parts" = true)
 (h7v:W.keepIn K (.ref f69)=true)
 (h7w:W.nsIn K mainGlobals "law" = some (some (.ref f70)))
 (h7x:K.lookup f70=some ⟨aAj,ax7,.func (W.fnOf "law" "law" (ak Ae) (aj Ae) (aa Ae) .none apn apo apq alc agR apr),aza⟩)
 (h7y:W.codeIn K agR "law" = true)
 (h7z:W.keepIn K (.ref f70)=true)
 (h80:W.nsIn K mainGlobals "WRITTEN_TRUTHS" = some (some (.ref ga0)))
 (h81:K.lookup ga0=some ⟨go0,gd0,.dict ge0 gn0,gs0⟩)
 (h82:(ga0 == sysModules)=false)
 (h83:go0=.type "dict")
 (h84:gd0=none)
 (h85:gs0=#[])
 (h86:PyProof.Rows.KTD.Rows (fun (b:Bool) (v:Value)=>v=.bool b) ge0.toList [("yes",true),("no",false)])
 (h87:W.nsIn K mainGlobals "ValueError" = some none)
 (h88:W.nsIn K mainGlobals "abs" = some none)
 (h89:W.nsIn K mainGlobals "bool" = some none)
 (h8a:W.nsIn K mainGlobals "dict" = some none)
 (h8b:W.nsIn K mainGlobals "enumerate" = some none)
 (h8c:W.nsIn K mainGlobals "int" = some none)
 (h8d:W.nsIn K mainGlobals "isinstance" = some none)
 (h8e:W.nsIn K mainGlobals "len" = some none)
 (h8f:W.nsIn K mainGlobals "list" = some none)
 (h8g:W.nsIn K mainGlobals "range" = some none)
 (h8h:W.nsIn K mainGlobals "str" = some none)
 (h98:W.clsIn K jX=some agS)
 (h99:W.typeIn K (.ref jX)=some (.type "type"))
 (h9a:W.clsIn K bu=some vA)
 (h9b:W.typeIn K (.ref bu)=some (.type "type"))
 (h9c:W.clsIn K pD=some aps)
 (h9d:W.typeIn K (.ref pD)=some (.type "type"))
 (h9e:W.clsIn K bz=some abb)
 (h9f:W.typeIn K (.ref bz)=some (.type "type"))
 (h9g:W.clsIn K pZ=some abd)
 (h9h:W.typeIn K (.ref pZ)=some (.type "type"))
 (h9i:W.clsIn K gb=some LR)
 (h9j:W.typeIn K (.ref gb)=some (.type "type"))
 (h9k:W.clsIn K bA=some acW)
 (h9l:W.typeIn K (.ref bA)=some (.type "type"))
 (h9m:W.clsIn K vz=some acX)
 (h9n:W.typeIn K (.ref vz)=some (.type "type"))
 (h9o:W.clsIn K p6=some abe)
 (h9p:W.typeIn K (.ref p6)=some (.type "type"))
 (h9q:W.clsIn K aG=some Uy)
 (h9r:W.typeIn K (.ref aG)=some (.type "type"))
 (h9s:W.clsIn K aY=some abf)
 (h9t:W.typeIn K (.ref aY)=some (.type "type"))
 (h9u:W.clsIn K aA=some Pr)
 (h9v:W.typeIn K (.ref aA)=some (.type "type"))
 (h9w:W.clsIn K aQ=some abg)
 (h9x:W.typeIn K (.ref aQ)=some (.type "type"))
 (h9y:W.excIn K bu fO "ValueError.__new__" = true)
 (h9z:K.lookup aG=some ⟨JW,Uz,.cls yu,yx⟩)
 (ha0:JW=.type "type")
 (ha1:yu.mro=.ref aG::.ref bu::fO)
 (ha2:yx.size=6∧yx[4]? = some (some (.builtin "ValueError.__new__")))
 (ha3:yu.hasDel=false)
 (ha4:vA.mro=.ref bu::fO)
 (ha5:W.findIn K (.ref aG) "__init__" = some (some (.ref f0)))
 (ha6:W.isFn K (.ref f0)=true)
 (ha7:W.keepIn K (.ref aG)=true)
 (ha8:W.findIn K (.ref aG) "__getattribute__" = some (some (.builtin "BaseException.__getattribute__")))
 (ha9:W.findIn K (.ref aG) "__getattr__" = some none)
 (haa:W.findIn K (.ref aG) "__class__" = some (some (.builtin "object.__class__")))
 (hab:W.specialIn K (.builtin "object.__class__") "__get__" = some (some (.builtin "getset_descriptor.__get__")))
 (hac:W.takesIn K (.builtin "object.__class__")=some true)
 (had:W.mroIn K aG (.type "object")=some true)
 (hae:W.mroIn K aG (.type "BaseException")=some true)
 (haf:W.findIn K (.ref aG) "__setattr__" = some (some (.builtin "object.__setattr__")))
 (hag:W.hasDictIn K aG=true)
 (hah:W.findIn K (.ref aG) "name" = some none)
 (hai:K.lookup aA=some ⟨Bk,Pu,.cls tK,tL⟩)
 (haj:Bk=.type "type")
 (hak:tK.mro=.ref aA::.ref bu::fO)
 (hal:tL.size=6∧tL[4]? = some (some (.builtin "ValueError.__new__")))
 (ham:tK.hasDel=false)
 (han:vA.mro=.ref bu::fO)
 (hao:W.findIn K (.ref aA) "__init__" = some (some (.ref f1)))
 (hap:W.isFn K (.ref f1)=true)
 (haq:W.keepIn K (.ref aA)=true)
 (har:W.findIn K (.ref aA) "__getattribute__" = some (some (.builtin "BaseException.__getattribute__")))
 (has:W.findIn K (.ref aA) "__getattr__" = some none)
 (hat:W.findIn K (.ref aA) "__class__" = some (some (.builtin "object.__class__")))
 (hau:W.specialIn K (.builtin "object.__class__") "__get__" = some (some (.builtin "getset_descriptor.__get__")))
 (hav:W.takesIn K (.builtin "object.__class__")=some true)
 (haw:W.mroIn K aA (.type "object")=some true)
 (hax:W.mroIn K aA (.type "BaseException")=some true)
 (hay:W.findIn K (.ref aA) "__setattr__" = some (some (.builtin "object.__setattr__")))
 (haz:W.hasDictIn K aA=true)
 (hb0:W.findIn K (.ref aA) "name" = some none)
 (hb1:W.readsIn K bu (.type "type")=true)
 (hb2:W.findCls K (.ref bu) (.type "type") "__init__" = some (.val (.builtin "ValueError.__init__")))
 (hb3:W.specialIn K (.ref bu) "__getattribute__" = some (some (.builtin "type.__getattribute__")))
 (hb4:W.subIn K (.ref bu) (.type "BaseException")=some true)
 (hb5:W.mroIn K aG (.ref bu)=some true)
 (hb6:W.subIn K (.ref bu) (.type "BaseException")=some true)
 (hb7:W.mroIn K aA (.ref bu)=some true)
 (hb8:W.mroIn K aG (.ref p6)=some false)
 (hb9:(Value.ref aG == Value.ref p6)=false)
 (hba:W.mroIn K aG (.ref aA)=some false)
 (hbb:(Value.ref aG == Value.ref aA)=false)
 (hbc:W.mroIn K aG (.ref pZ)=some false)
 (hbd:(Value.ref aG == Value.ref pZ)=false)
 (hbe:W.mroIn K aG (.ref vz)=some false)
 (hbf:(Value.ref aG == Value.ref vz)=false)
 (hbg:W.mroIn K aG (.ref gb)=some false)
 (hbh:(Value.ref aG == Value.ref gb)=false)
 (hbi:W.mroIn K aG (.ref bu)=some true)
 (hbj:(Value.ref aG == Value.ref bu)=false)
 (hbk:W.mroIn K aA (.ref p6)=some false)
 (hbl:(Value.ref aA == Value.ref p6)=false)
 (hbm:W.mroIn K aA (.ref aG)=some false)
 (hbn:(Value.ref aA == Value.ref aG)=false)
 (hbo:W.mroIn K aA (.ref pZ)=some false)
 (hbp:(Value.ref aA == Value.ref pZ)=false)
 (hbq:W.mroIn K aA (.ref vz)=some false)
 (hbr:(Value.ref aA == Value.ref vz)=false)
 (hbs:W.mroIn K aA (.ref gb)=some false)
 (hbt:(Value.ref aA == Value.ref gb)=false)
 (hbu:W.mroIn K aA (.ref bu)=some true)
 (hbv:(Value.ref aA == Value.ref bu)=false)
 (hbw:W.mroIn K fZ (.ref jX)=some false)
 (hbx:(Value.ref fZ == Value.ref jX)=false)
 (hby:W.mroIn K bO (.ref pD)=some false)
 (hbz:(Value.ref bO == Value.ref pD)=false)
 (hc0:W.mroIn K aQ (.ref bA)=some false)
 (hc1:(Value.ref aQ == Value.ref bA)=false)
 (hc2:W.mroIn K aQ (.ref aY)=some false)
 (hc3:(Value.ref aQ == Value.ref aY)=false)
 (hc4:W.mroIn K aQ (.ref bz)=some false)
 (hc5:(Value.ref aQ == Value.ref bz)=false)
 (hc6:W.mroIn K aY (.ref aQ)=some false)
 (hc7:(Value.ref aY == Value.ref aQ)=false)
 (hc8:W.mroIn K aY (.ref bA)=some false)
 (hc9:(Value.ref aY == Value.ref bA)=false)
 (hca:W.mroIn K aY (.ref bz)=some false)
 (hcb:(Value.ref aY == Value.ref bz)=false)
 (hcc:W.mroIn K cI (.ref aQ)=some false)
 (hcd:(Value.ref cI == Value.ref aQ)=false)
 (hce:W.mroIn K cI (.ref bA)=some false)
 (hcf:(Value.ref cI == Value.ref bA)=false)
 (hcg:W.mroIn K cI (.ref aY)=some true)
 (hch:(Value.ref cI == Value.ref aY)=false)
 (hci:W.mroIn K cI (.ref bz)=some false)
 (hcj:(Value.ref cI == Value.ref bz)=false)
 (hck:W.mroIn K bA (.ref aQ)=some false)
 (hcl:(Value.ref bA == Value.ref aQ)=false)
 (hcm:W.mroIn K bA (.ref aY)=some false)
 (hcn:(Value.ref bA == Value.ref aY)=false)
 (hco:W.mroIn K bA (.ref bz)=some false)
 (hcp:(Value.ref bA == Value.ref bz)=false)
 (hcq:W.mroIn K bz (.ref aQ)=some false)
 (hcr:(Value.ref bz == Value.ref aQ)=false)
 (hcs:W.mroIn K bz (.ref bA)=some false)
 (hct:(Value.ref bz == Value.ref bA)=false)
 (hcu:W.mroIn K bz (.ref aY)=some false)
 (hcv:(Value.ref bz == Value.ref aY)=false)
 (hcw:W.subIn K (.type "NoneType") (.ref aQ)=some false)
 (hcx:W.subIn K (.type "NoneType") (.ref bA)=some false)
 (hcy:W.mroIn K aG (.type "ValueError")=some true)
 (hcz:W.mroIn K aA (.type "ValueError")=some true)
 (hd0:W.plainGet K aQ Str.empty=true)
 (hd1:W.hasDictIn K aQ=true)
 (hd2:W.plainOver K aQ=true)
 (hd3:W.findIn K (.ref aQ) "__setattr__" = some (some (.builtin "object.__setattr__")))
 (hd4:W.findIn K (.ref aQ) "__class__" = some (some (.builtin "object.__class__")))
 (hd5:W.specialIn K (.builtin "object.__class__") "__get__" = some (some (.builtin "getset_descriptor.__get__")))
 (hd6:W.takesIn K (.builtin "object.__class__")=some true)
 (hd7:W.mroIn K aQ (.type "object")=some true)
 (hd8:W.makesIn K aQ=true)
 (hd9:W.findIn K (.ref aQ) "__init__" = some (some (.ref f4)))
 (hda:W.isFn K (.ref f4)=true)
 (hdb:W.keepIn K (.ref aQ)=true)
 (hdc:W.findIn K (.ref aQ) "told" = some (some (.ref f8)))
 (hdd:W.isFn K (.ref f8)=true)
 (hde:W.findIn K (.ref aQ) "fits" = some (some (.ref f5)))
 (hdf:W.isFn K (.ref f5)=true)
 (hdg:W.findIn K (.ref aQ) "answer_of" = some (some (.ref f6)))
 (hdh:W.isFn K (.ref f6)=true)
 (hdi:W.findIn K (.ref aQ) "rank" = some (some (.ref f7)))
 (hdj:W.isFn K (.ref f7)=true)
 (hdk:W.findIn K (.ref aQ) "low" = some none)
 (hdl:W.findIn K (.ref aQ) "high" = some none)
 (hdm:W.plainGet K aY Str.empty=true)
 (hdn:W.hasDictIn K aY=true)
 (hdo:W.plainOver K aY=true)
 (hdp:W.findIn K (.ref aY) "__setattr__" = some (some (.builtin "object.__setattr__")))
 (hdq:W.findIn K (.ref aY) "__class__" = some (some (.builtin "object.__class__")))
 (hdr:W.specialIn K (.builtin "object.__class__") "__get__" = some (some (.builtin "getset_descriptor.__get__")))
 (hds:W.takesIn K (.builtin "object.__class__")=some true)
 (hdt:W.mroIn K aY (.type "object")=some true)
 (hdu:W.makesIn K aY=true)
 (hdv:W.findIn K (.ref aY) "__init__" = some (some (.ref f3)))
 (hdw:W.isFn K (.ref f3)=true)
 (hdx:W.keepIn K (.ref aY)=true)
 (hdy:W.findIn K (.ref aY) "shown" = some (some (.ref f9)))
 (hdz:W.isFn K (.ref f9)=true)
 (he0:W.findIn K (.ref aY) "told" = some (some (.ref f11)))
 (he1:W.isFn K (.ref f11)=true)
 (he2:W.findIn K (.ref aY) "bounds" = some (some (.ref f10)))
 (he3:W.isFn K (.ref f10)=true)
 (he4:W.findIn K (.ref aY) "low" = some none)
 (he5:W.findIn K (.ref aY) "high" = some none)
 (he6:W.plainGet K cI Str.empty=true)
 (he7:W.hasDictIn K cI=true)
 (he8:W.plainOver K cI=true)
 (he9:W.findIn K (.ref cI) "__setattr__" = some (some (.builtin "object.__setattr__")))
 (Bf:W.findIn K (.ref cI) "__class__" = some (some (.builtin "object.__class__")))
 (heb:W.specialIn K (.builtin "object.__class__") "__get__" = some (some (.builtin "getset_descriptor.__get__")))
 (hec:W.takesIn K (.builtin "object.__class__")=some true)
 (hed:W.mroIn K cI (.type "object")=some true)
 (hee:W.makesIn K cI=true)
 (hef:W.findIn K (.ref cI) "__init__" = some (some (.ref f3)))
 (heg:W.isFn K (.ref f3)=true)
 (heh:W.keepIn K (.ref cI)=true)
 (hei:W.findIn K (.ref cI) "shown" = some (some (.ref f12)))
 (hej:W.isFn K (.ref f12)=true)
 (hek:W.findIn K (.ref cI) "told" = some (some (.ref f13)))
 (hel:W.isFn K (.ref f13)=true)
 (hem:W.findIn K (.ref cI) "bounds" = some (some (.ref f10)))
 (hen:W.isFn K (.ref f10)=true)
 (heo:W.findIn K (.ref cI) "low" = some none)
 (hep:W.findIn K (.ref cI) "high" = some none)
 (heq:W.plainGet K bA Str.empty=true)
 (her:W.hasDictIn K bA=true)
 (hes:W.plainOver K bA=true)
 (het:W.findIn K (.ref bA) "__setattr__" = some (some (.builtin "object.__setattr__")))
 (heu:W.findIn K (.ref bA) "__class__" = some (some (.builtin "object.__class__")))
 (hev:W.specialIn K (.builtin "object.__class__") "__get__" = some (some (.builtin "getset_descriptor.__get__")))
 (hew:W.takesIn K (.builtin "object.__class__")=some true)
 (hex:W.mroIn K bA (.type "object")=some true)
 (hey:W.makesIn K bA=true)
 (hez:W.findIn K (.ref bA) "__init__" = some (some (.ref f14)))
 (hf0:W.isFn K (.ref f14)=true)
 (hf1:W.keepIn K (.ref bA)=true)
 (hf2:W.findIn K (.ref bA) "told" = some (some (.ref f18)))
 (hf3:W.isFn K (.ref f18)=true)
 (hf4:W.findIn K (.ref bA) "fits" = some (some (.ref f15)))
 (hf5:W.isFn K (.ref f15)=true)
 (hf6:W.findIn K (.ref bA) "answer_of" = some (some (.ref f16)))
 (hf7:W.isFn K (.ref f16)=true)
 (hf8:W.findIn K (.ref bA) "rank" = some (some (.ref f17)))
 (hf9:W.isFn K (.ref f17)=true)
 (hfa:W.findIn K (.ref bA) "low" = some none)
 (hfb:W.findIn K (.ref bA) "high" = some none)
 (hfc:W.findIn K (.ref bA) "words" = some none)
 (hfd:W.plainGet K bz Str.empty=true)
 (hfe:W.hasDictIn K bz=true)
 (hff:W.plainOver K bz=true)
 (hfg:W.findIn K (.ref bz) "__setattr__" = some (some (.builtin "object.__setattr__")))
 (hfh:W.findIn K (.ref bz) "__class__" = some (some (.builtin "object.__class__")))
 (hfi:W.specialIn K (.builtin "object.__class__") "__get__" = some (some (.builtin "getset_descriptor.__get__")))
 (hfj:W.takesIn K (.builtin "object.__class__")=some true)
 (hfk:W.mroIn K bz (.type "object")=some true)
 (hfl:W.makesIn K bz=true)
 (hfm:W.findIn K (.ref bz) "__init__" = some (some (.ref f19)))
 (hfn:W.isFn K (.ref f19)=true)
 (hfo:W.keepIn K (.ref bz)=true)
 (hfp:W.findIn K (.ref bz) "told" = some (some (.ref f20)))
 (hfq:W.isFn K (.ref f20)=true)
 (hfr:W.findIn K (.ref bz) "low" = some none)
 (hfs:W.findIn K (.ref bz) "high" = some none)
 (hft:W.plainGet K jX Str.empty=true)
 (hfu:W.hasDictIn K jX=true)
 (hfv:W.plainOver K jX=true)
 (hfw:W.findIn K (.ref jX) "__setattr__" = some (some (.builtin "object.__setattr__")))
 (hfx:W.findIn K (.ref jX) "__class__" = some (some (.builtin "object.__class__")))
 (hfy:W.specialIn K (.builtin "object.__class__") "__get__" = some (some (.builtin "getset_descriptor.__get__")))
 (hfz:W.takesIn K (.builtin "object.__class__")=some true)
 (hg0:W.mroIn K jX (.type "object")=some true)
 (hg1:W.makesIn K jX=true)
 (hg2:W.findIn K (.ref jX) "__init__" = some (some (.ref f22)))
 (hg3:W.isFn K (.ref f22)=true)
 (hg4:W.keepIn K (.ref jX)=true)
 (hg5:W.findIn K (.ref jX) "name" = some none)
 (hg6:W.findIn K (.ref jX) "kind" = some none)
 (hg7:W.findIn K (.ref jX) "when" = some none)
 (hg8:W.plainGet K fZ Str.empty=true)
 (hg9:W.hasDictIn K fZ=true)
 (hga:W.plainOver K fZ=true)
 (hgb:W.findIn K (.ref fZ) "__setattr__" = some (some (.builtin "object.__setattr__")))
 (hgc:W.findIn K (.ref fZ) "__class__" = some (some (.builtin "object.__class__")))
 (hgd:W.specialIn K (.builtin "object.__class__") "__get__" = some (some (.builtin "getset_descriptor.__get__")))
 (hge:W.takesIn K (.builtin "object.__class__")=some true)
 (hgf:W.mroIn K fZ (.type "object")=some true)
 (hgg:W.makesIn K fZ=true)
 (hgh:W.findIn K (.ref fZ) "__init__" = some (some (.ref f23)))
 (hgi:W.isFn K (.ref f23)=true)
 (hgj:W.keepIn K (.ref fZ)=true)
 (hgk:W.findIn K (.ref fZ) "name" = some none)
 (hgl:W.findIn K (.ref fZ) "test" = some none)
 (hgm:W.findIn K (.ref fZ) "firm" = some none)
 (hgn:W.plainGet K iy Str.empty=true)
 (hgo:W.hasDictIn K iy=true)
 (hgp:W.plainOver K iy=true)
 (hgq:W.findIn K (.ref iy) "__setattr__" = some (some (.builtin "object.__setattr__")))
 (hgr:W.makesIn K iy=true)
 (hgs:W.findIn K (.ref iy) "__init__" = some (some (.ref f24)))
 (hgt:W.isFn K (.ref f24)=true)
 (hgu:W.keepIn K (.ref iy)=true)
 (hgv:W.findIn K (.ref iy) "name" = some none)
 (hgw:W.findIn K (.ref iy) "each" = some none)
 (hgx:W.findIn K (.ref iy) "rows" = some none)
 (hgy:W.findIn K (.ref iy) "ways" = some none)
 (hgz:W.plainGet K iU Str.empty=true)
 (hh0:W.hasDictIn K iU=true)
 (hh1:W.plainOver K iU=true)
 (hh2:W.findIn K (.ref iU) "__setattr__" = some (some (.builtin "object.__setattr__")))
 (hh3:W.makesIn K iU=true)
 (hh4:W.findIn K (.ref iU) "__init__" = some (some (.ref f25)))
 (hh5:W.isFn K (.ref f25)=true)
 (hh6:W.keepIn K (.ref iU)=true)
 (hh7:W.findIn K (.ref iU) "name" = some none)
 (hh8:W.findIn K (.ref iU) "sheets" = some none)
 (hh9:W.findIn K (.ref iU) "totals" = some none)
 (hha:W.plainGet K dz Str.empty=true)
 (hhb:W.hasDictIn K dz=true)
 (hhc:W.plainOver K dz=true)
 (hhd:W.findIn K (.ref dz) "__setattr__" = some (some (.builtin "object.__setattr__")))
 (hhe:W.makesIn K dz=true)
 (hhf:W.findIn K (.ref dz) "__init__" = some (some (.ref f39)))
 (hhg:W.isFn K (.ref f39)=true)
 (hhh:W.keepIn K (.ref dz)=true)
 (hhi:W.findIn K (.ref dz) "reaches_sum" = some (some (.ref f43)))
 (hhj:W.isFn K (.ref f43)=true)
 (hhk:W.findIn K (.ref dz) "look_at_sheet" = some (some (.ref f45)))
 (hhl:W.isFn K (.ref f45)=true)
 (hhm:W.findIn K (.ref dz) "look_at_saying" = some (some (.ref f44)))
 (hhn:W.isFn K (.ref f44)=true)
 (hho:W.findIn K (.ref dz) "comes_again" = some (some (.ref f40)))
 (hhp:W.isFn K (.ref f40)=true)
 (hhq:W.findIn K (.ref dz) "is_within" = some (some (.ref f41)))
 (hhr:W.isFn K (.ref f41)=true)
 (hhs:W.findIn K (.ref dz) "reaches_question" = some (some (.ref f42)))
 (hht:W.isFn K (.ref f42)=true)
 (hhu:W.findIn K (.ref dz) "paper" = some none)
 (hhv:W.findIn K (.ref dz) "spots" = some none)
 (hhw:W.plainGet K pD Str.empty=true)
 (hhx:W.hasDictIn K pD=true)
 (hhy:W.plainOver K pD=true)
 (hhz:W.findIn K (.ref pD) "__setattr__" = some (some (.builtin "object.__setattr__")))
 (hi0:W.findIn K (.ref pD) "__class__" = some (some (.builtin "object.__class__")))
 (hi1:W.specialIn K (.builtin "object.__class__") "__get__" = some (some (.builtin "getset_descriptor.__get__")))
 (hi2:W.takesIn K (.builtin "object.__class__")=some true)
 (hi3:W.mroIn K pD (.type "object")=some true)
 (hi4:W.makesIn K pD=true)
 (hi5:W.findIn K (.ref pD) "__init__" = some (some (.ref f48)))
 (hi6:W.isFn K (.ref f48)=true)
 (hi7:W.keepIn K (.ref pD)=true)
 (hi8:W.findIn K (.ref pD) "atoms" = some (some (.ref f49)))
 (hi9:W.isFn K (.ref f49)=true)
 (hia:W.findIn K (.ref pD) "settled" = some (some (.ref f50)))
 (hib:W.isFn K (.ref f50)=true)
 (hic:W.findIn K (.ref pD) "name" = some none)
 (hid:W.findIn K (.ref pD) "word" = some none)
 (hie:W.findIn K (.ref pD) "place" = some none)
 (hif:W.plainGet K bO Str.empty=true)
 (hig:W.hasDictIn K bO=true)
 (hih:W.plainOver K bO=true)
 (hii:W.findIn K (.ref bO) "__setattr__" = some (some (.builtin "object.__setattr__")))
 (hij:W.findIn K (.ref bO) "__class__" = some (some (.builtin "object.__class__")))
 (hik:W.specialIn K (.builtin "object.__class__") "__get__" = some (some (.builtin "getset_descriptor.__get__")))
 (hil:W.takesIn K (.builtin "object.__class__")=some true)
 (him:W.mroIn K bO (.type "object")=some true)
 (hin:W.makesIn K bO=true)
 (hio:W.findIn K (.ref bO) "__init__" = some (some (.ref f51)))
 (hip:W.isFn K (.ref f51)=true)
 (hiq:W.keepIn K (.ref bO)=true)
 (hir:W.findIn K (.ref bO) "atoms" = some (some (.ref f52)))
 (his:W.isFn K (.ref f52)=true)
 (hit:W.findIn K (.ref bO) "settled" = some (some (.ref f53)))
 (hiu:W.isFn K (.ref f53)=true)
 (hiv:W.findIn K (.ref bO) "name" = some none)
 (hiw:W.findIn K (.ref bO) "how" = some none)
 (hix:W.findIn K (.ref bO) "number" = some none)
 (hiy:W.plainGet K rC Str.empty=true)
 (hiz:W.hasDictIn K rC=true)
 (hj0:W.plainOver K rC=true)
 (hj1:W.findIn K (.ref rC) "__setattr__" = some (some (.builtin "object.__setattr__")))
 (hj2:W.makesIn K rC=true)
 (hj3:W.findIn K (.ref rC) "__init__" = some (some (.ref f54)))
 (hj4:W.isFn K (.ref f54)=true)
 (hj5:W.keepIn K (.ref rC)=true)
 (hj6:W.findIn K (.ref rC) "atoms" = some (some (.ref f55)))
 (hj7:W.isFn K (.ref f55)=true)
 (hj8:W.findIn K (.ref rC) "test" = some none)
 (hj9:W.plainGet K mY Str.empty=true)
 (hja:W.hasDictIn K mY=true)
 (hjb:W.plainOver K mY=true)
 (hjc:W.findIn K (.ref mY) "__setattr__" = some (some (.builtin "object.__setattr__")))
 (hjd:W.makesIn K mY=true)
 (hje:W.findIn K (.ref mY) "__init__" = some (some (.ref f56)))
 (hjf:W.isFn K (.ref f56)=true)
 (hjg:W.keepIn K (.ref mY)=true)
 (hjh:W.findIn K (.ref mY) "atoms" = some (some (.ref f57)))
 (hji:W.isFn K (.ref f57)=true)
 (hjj:W.findIn K (.ref mY) "one" = some none)
 (hjk:W.findIn K (.ref mY) "other" = some none)
 (hjl:W.plainGet K gR Str.empty=true)
 (hjm:W.hasDictIn K gR=true)
 (hjn:W.plainOver K gR=true)
 (hjo:W.findIn K (.ref gR) "__setattr__" = some (some (.builtin "object.__setattr__")))
 (hjp:W.makesIn K gR=true)
 (hjq:W.findIn K (.ref gR) "__init__" = some (some (.ref f56)))
 (hjr:W.isFn K (.ref f56)=true)
 (hjs:W.keepIn K (.ref gR)=true)
 (hjt:W.findIn K (.ref gR) "atoms" = some (some (.ref f57)))
 (hju:W.isFn K (.ref f57)=true)
 (hjv:W.findIn K (.ref gR) "one" = some none)
 (hjw:W.findIn K (.ref gR) "other" = some none)
 (hjx:W.readsIn K Dg (.type "type")=true)
 (hjy:W.findCls K (.ref Dg) (.type "type") "__init__" = some (.val (.ref f3)))
 (hjz:W.specialIn K (.ref Dg) "__getattribute__" = some (some (.builtin "type.__getattribute__")))
 (hk0:W.readsIn K Np (.type "type")=true)
 (hk1:W.findCls K (.ref Np) (.type "type") "__init__" = some (.val (.ref f21)))
 (hk2:W.specialIn K (.ref Np) "__getattribute__" = some (some (.builtin "type.__getattribute__"))) :
 ∃ A:dq,Txt K mg A :=
 ⟨⟨f0,
   W.fnOf "__init__" "Unknown.__init__" (ak aZ) (aj aZ) (aa aZ) .none kV0 dc0 pm0 an0 cd0 ct0,
   f1,
   W.fnOf "__init__" "WrongKind.__init__" (ak aR) (aj aR) (aa aR) .none kV1 dc1 pm1 an1 cd1 ct1,
   f2,
   W.fnOf "money_shown" "money_shown" (ak dB) (aj dB) (aa dB) .none kV2 dc2 pm2 an2 cd2 ct2,
   f3,
   W.fnOf "__init__" "Kind.__init__" (ak bU) (aj bU) (aa bU) .none kV3 dc3 pm3 an3 cd3 ct3,
   f4,
   W.fnOf "__init__" "YesNo.__init__" (ak bF) (aj bF) (aa bF) .none kV4 dc4 pm4 an4 cd4 ct4,
   f5,
   W.fnOf "fits" "YesNo.fits" (ak cM) (aj cM) (aa cM) .none kV5 dc5 pm5 an5 cd5 ct5,
   f6,
   W.fnOf "answer_of" "YesNo.answer_of" (ak aU) (aj aU) (aa aU) .none kV6 dc6 pm6 an6 cd6 ct6,
   f7,
   W.fnOf "rank" "YesNo.rank" (ak cN) (aj cN) (aa cN) .none kV7 dc7 pm7 an7 cd7 ct7,
   f8,
   W.fnOf "told" "YesNo.told" (ak cO) (aj cO) (aa cO) .none kV8 dc8 pm8 an8 cd8 ct8,
   f9,
   W.fnOf "shown" "Whole.shown" (ak bV) (aj bV) (aa bV) .none kV9 dc9 pm9 an9 cd9 ct9,
   f10,
   W.fnOf "bounds" "Whole.bounds" (ak bG) (aj bG) (aa bG) .none ald ale alf akd afT alg,
   f11,
   W.fnOf "told" "Whole.told" (ak cQ) (aj cQ) (aa cQ) .none alh ali alj ake afU alk,
   f12,
   W.fnOf "shown" "Money.shown" (ak bW) (aj bW) (aa bW) .none alm aln alo akf afV alp,
   f13,
   W.fnOf "told" "Money.told" (ak cR) (aj cR) (aa cR) .none alq alr als akg afW alu,
   f14,
   W.fnOf "__init__" "Pick.__init__" (ak bY) (aj bY) (aa bY) .none alv alw alx akh afX aly,
   f15,
   W.fnOf "fits" "Pick.fits" (ak dC) (aj dC) (aa dC) .none alz alA alB aki afY alC,
   f16,
   W.fnOf "answer_of" "Pick.answer_of" (ak bc) (aj bc) (aa bc) .none alD alE alF akj afZ alG,
   f17,
   W.fnOf "rank" "Pick.rank" (ak dD) (aj dD) (aa dD) .none alH alI alJ akk af0 alK,
   f18,
   W.fnOf "told" "Pick.told" (ak dF) (aj dF) (aa dF) .none alL alM alN akl af1 alO,
   f19,
   W.fnOf "__init__" "Names.__init__" (ak bH) (aj bH) (aa bH) (.ref afP) alP alQ alR akm af2 alS,
   [(.int 3 aba)],
   f20,
   W.fnOf "told" "Names.told" (ak cT) (aj cT) (aa cT) .none alT alU alV akn af3 alW,
   f21,
   W.fnOf "__init__" "Row.__init__" (ak cU) (aj cU) (aa cU) .none alX alY alZ ako af4 al0,
   f22,
   W.fnOf "__init__" "Ask.__init__" (ak bR) (aj bR) (aa bR) (.ref afQ) al1 al2 al3 akp af5 al4,
   [.none],
   f23,
   W.fnOf "__init__" "Check.__init__" (ak bI) (aj bI) (aa bI) (.ref afR) al5 al6 al7 akq af6 al8,
   [(.bool true)],
   f24,
   W.fnOf "__init__" "Sheet.__init__" (ak bJ) (aj bJ) (aa bJ) .none al9 ama amb akr af7 amc,
   f25,
   W.fnOf "__init__" "Paper.__init__" (ak bK) (aj bK) (aa bK) .none amd ame amf aks af8 amg,
   f26,
   W.fnOf "kinds_of" "kinds_of" (ak gf) (aj gf) (aa gf) .none amh ami amj akt af9 amk,
   f27,
   W.fnOf "gathered" "gathered" (ak gh) (aj gh) (aa gh) .none aml amm amn aku aga amo,
   f28,
   W.fnOf "questions_of" "questions_of" (ak cV) (aj cV) (aa cV) .none amq amr ams akv agb amt,
   f29,
   W.fnOf "names_given" "names_given" (ak dG) (aj dG) (aa dG) .none amu amv amw akx agc amx,
   f30,
   W.fnOf "look_for_twice" "look_for_twice" (ak bL) (aj bL) (aa bL) .none amy amz amA aky agd amB,
   f31,
   W.fnOf "saying_of" "saying_of" (ak eO) (aj eO) (aa eO) .none amC amD amE akz age amF,
   f32,
   W.fnOf "atoms_of" "atoms_of" (ak gj) (aj gj) (aa gj) .none amG amH amI akA agf amJ,
   f33,
   W.fnOf "look_at_each" "look_at_each" (ak cX) (aj cX) (aa cX) .none amK amL amM akB agg amN,
   f34,
   W.fnOf "look_at_atoms" "look_at_atoms" (ak bZ) (aj bZ) (aa bZ) .none amO amP amQ akC agh amR,
   f35,
   W.fnOf "look_at_parts" "look_at_parts" (ak b7) (aj b7) (aa b7) .none amS amT amU akD agi amV,
   f36,
   W.fnOf "look_at_names" "look_at_names" (ak b8) (aj b8) (aa b8) .none amW amX amY akE agj amZ,
   f37,
   W.fnOf "sums_in" "sums_in" (ak gU) (aj gU) (aa gU) .none am0 am1 am2 akF agk am3,
   f38,
   W.fnOf "look_for_ring" "look_for_ring" (ak cg) (aj cg) (aa cg) .none am4 am5 am6 akG agl am7,
   f39,
   W.fnOf "__init__" "Reach.__init__" (ak bM) (aj bM) (aa bM) .none am8 am9 ana akH agm anb,
   f40,
   W.fnOf "comes_again" "Reach.comes_again" (ak aK) (aj aK) (aa aK) .none anc ane anf akI agn ang,
   f41,
   W.fnOf "is_within" "Reach.is_within" (ak aV) (aj aV) (aa aV) .none anh ani anj akJ ago ank,
   f42,
   W.fnOf "reaches_question" "Reach.reaches_question" (ak aC) (aj aC) (aa aC) .none anl anm ano akK agp anp,
   f43,
   W.fnOf "reaches_sum" "Reach.reaches_sum" (ak aL) (aj aL) (aa aL) .none anq anr ant akL agq anu,
   f44,
   W.fnOf "look_at_saying" "Reach.look_at_saying" (ak aF) (aj aF) (aa aF) .none anv anw anx akM agr anz,
   f45,
   W.fnOf "look_at_sheet" "Reach.look_at_sheet" (ak aJ) (aj aJ) (aa aJ) .none anA anB anC akN ags anD,
   f46,
   W.fnOf "look_for_reach" "look_for_reach" (ak bN) (aj bN) (aa bN) .none anE anF anG akO agt anH,
   f47,
   W.fnOf "look_at" "look_at" (ak gW) (aj gW) (aa gW) .none anI anJ anK akP agu anL,
   f48,
   W.fnOf "__init__" "Is.__init__" (ak cY) (aj cY) (aa cY) (.ref afS) anM anN anO akQ agv anP,
   [.none],
   f49,
   W.fnOf "atoms" "Is.atoms" (ak dY) (aj dY) (aa dY) .none anQ anR anS akR agw anT,
   f50,
   W.fnOf "settled" "Is.settled" (ak cZ) (aj cZ) (aa cZ) .none anU anV anW akS agx anY,
   f51,
   W.fnOf "__init__" "Compare.__init__" (ak bf) (aj bf) (aa bf) .none anZ aoa aob akT agy aoc,
   f52,
   W.fnOf "atoms" "Compare.atoms" (ak bx) (aj bx) (aa bx) .none aod aoe aof akU agz aog,
   f53,
   W.fnOf "settled" "Compare.settled" (ak aW) (aj aW) (aa aW) .none aoh aoi aoj akV agA aok,
   f54,
   W.fnOf "__init__" "Not.__init__" (ak dg) (aj dg) (aa dg) .none aol aom aon akW agB aoo,
   f55,
   W.fnOf "atoms" "Not.atoms" (ak dH) (aj dH) (aa dH) .none aop aoq aor akX agC aos,
   f56,
   W.fnOf "__init__" "Pair.__init__" (ak cj) (aj cj) (aa cj) .none aot aou aov akY agD aow,
   f57,
   W.fnOf "atoms" "Pair.atoms" (ak dh) (aj dh) (aa dh) .none aox aoy aoz akZ agE aoA,
   f58,
   W.fnOf "_law_cell" "_law_cell" (ak gm) (aj gm) (aa gm) .none aoB aoC aoD ak0 agF aoE,
   f59,
   W.fnOf "_law_name" "_law_name" (ak gn) (aj gn) (aa gn) .none aoF aoG aoH ak1 agG aoI,
   f60,
   W.fnOf "_law_alone" "_law_alone" (ak eQ) (aj eQ) (aa eQ) .none aoJ aoK aoL ak2 agH aoM,
   f61,
   W.fnOf "_law_fault" "_law_fault" (ak eU) (aj eU) (aa eU) .none aoN aoO aoP ak3 agI aoQ,
   f62,
   W.fnOf "_law_kinds" "_law_kinds" (ak eV) (aj eV) (aa eV) .none aoR aoS aoT ak4 agJ aoU,
   f63,
   W.fnOf "_law_named" "_law_named" (ak eY) (aj eY) (aa eY) .none aoV aoW aoX ak5 agK aoY,
   f64,
   W.fnOf "_law_atom" "_law_atom" (ak gq) (aj gq) (aa gq) .none aoZ ao0 ao1 ak6 agL ao2,
   f65,
   W.fnOf "_law_what" "_law_what" (ak gr) (aj gr) (aa gr) .none ao3 ao4 ao5 ak7 agM ao6,
   f66,
   W.fnOf "_law_due" "_law_due" (ak gY) (aj gY) (aa gY) .none ao7 ao8 ao9 ak8 agN apa,
   f67,
   W.fnOf "_law_saying" "_law_saying" (ak dZ) (aj dZ) (aa dZ) .none apb apc apd ak9 agO ape,
   f68,
   W.fnOf "_law_each" "_law_each" (ak gw) (aj gw) (aa gw) .none apf apg aph ala agP api,
   f69,
   W.fnOf "_law_parts" "_law_parts" (ak eZ) (aj eZ) (aa eZ) .none apj apk apl alb agQ apm,
   f70,
   W.fnOf "law" "law" (ak Ae) (aj Ae) (aa Ae) .none apn apo apq alc agR apr,
   ga0,
   jX,
   bu,
   mY,
   fZ,
   bO,
   gR,
   pD,
   Dg,
   cI,
   bz,
   pZ,
   rC,
   gb,
   Pq,
   iU,
   bA,
   dz,
   vz,
   Np,
   RQ,
   iy,
   p6,
   aG,
   aY,
   aA,
   aQ⟩,⟨ao (st:=aZ) h01 h02 h03,
   (ao (st:=aZ) h01 h02 h03).binds (ps:=["self","name"]) (fun _ _ _ _ _ _ us hl=>Bj us hl fun _ _=>rfl),
   ao (st:=aR) h05 h06 h07,
   (ao (st:=aR) h05 h06 h07).binds (ps:=["self","name"]) (fun _ _ _ _ _ _ us hl=>Bj us hl fun _ _=>rfl),
   ao (st:=dB) h09 h0a h0b,
   (ao (st:=dB) h09 h0a h0b).binds (ps:=["hundredths"]) (fun _ _ _ _ _ _ us hl=>Ha us hl fun _=>rfl),
   h0b,
   W.mg_of X G h08,
   ao (st:=bU) h0d h0e h0f,
   (ao (st:=bU) h0d h0e h0f).binds (ps:=["self","low","high"]) (fun _ _ _ _ _ _ us hl=>VN us hl fun _ _ _=>rfl),
   ao (st:=bF) h0h h0i h0j,
   (ao (st:=bF) h0h h0i h0j).binds (ps:=["self"]) (fun _ _ _ _ _ _ us hl=>Ha us hl fun _=>rfl),
   ao (st:=cM) h0l h0m h0n,
   (ao (st:=cM) h0l h0m h0n).binds (ps:=["self","thing"]) (fun _ _ _ _ _ _ us hl=>Bj us hl fun _ _=>rfl),
   ao (st:=aU) h0p h0q h0r,
   (ao (st:=aU) h0p h0q h0r).binds (ps:=["self","text"]) (fun _ _ _ _ _ _ us hl=>Bj us hl fun _ _=>rfl),
   ao (st:=cN) h0t h0u h0v,
   (ao (st:=cN) h0t h0u h0v).binds (ps:=["self","answer"]) (fun _ _ _ _ _ _ us hl=>Bj us hl fun _ _=>rfl),
   ao (st:=cO) h0x h0y h0z,
   (ao (st:=cO) h0x h0y h0z).binds (ps:=["self"]) (fun _ _ _ _ _ _ us hl=>Ha us hl fun _=>rfl),
   ao (st:=bV) h11 h12 h13,
   (ao (st:=bV) h11 h12 h13).binds (ps:=["self","answer"]) (fun _ _ _ _ _ _ us hl=>Bj us hl fun _ _=>rfl),
   ao (st:=bG) h15 h16 h17,
   (ao (st:=bG) h15 h16 h17).binds (ps:=["self"]) (fun _ _ _ _ _ _ us hl=>Ha us hl fun _=>rfl),
   ao (st:=cQ) h19 h1a h1b,
   (ao (st:=cQ) h19 h1a h1b).binds (ps:=["self"]) (fun _ _ _ _ _ _ us hl=>Ha us hl fun _=>rfl),
   ao (st:=bW) h1d h1e h1f,
   (ao (st:=bW) h1d h1e h1f).binds (ps:=["self","answer"]) (fun _ _ _ _ _ _ us hl=>Bj us hl fun _ _=>rfl),
   ao (st:=cR) h1h h1i h1j,
   (ao (st:=cR) h1h h1i h1j).binds (ps:=["self"]) (fun _ _ _ _ _ _ us hl=>Ha us hl fun _=>rfl),
   ao (st:=bY) h1l h1m h1n,
   (ao (st:=bY) h1l h1m h1n).binds (ps:=["self","words"]) (fun _ _ _ _ _ _ us hl=>Bj us hl fun _ _=>rfl),
   ao (st:=dC) h1p h1q h1r,
   (ao (st:=dC) h1p h1q h1r).binds (ps:=["self","thing"]) (fun _ _ _ _ _ _ us hl=>Bj us hl fun _ _=>rfl),
   ao (st:=bc) h1t h1u h1v,
   (ao (st:=bc) h1t h1u h1v).binds (ps:=["self","text"]) (fun _ _ _ _ _ _ us hl=>Bj us hl fun _ _=>rfl),
   ao (st:=dD) h1x h1y h1z,
   (ao (st:=dD) h1x h1y h1z).binds (ps:=["self","answer"]) (fun _ _ _ _ _ _ us hl=>Bj us hl fun _ _=>rfl),
   ao (st:=dF) h21 h22 h23,
   (ao (st:=dF) h21 h22 h23).binds (ps:=["self"]) (fun _ _ _ _ _ _ us hl=>Ha us hl fun _=>rfl),
   (lF (st:=bH) h25 h26 h27 h28),
   (lF (st:=bH) h25 h26 h27 h28).binds (es:=[]) (fun T _ _ _ _ _ _ us M A E Q s to n ht hc hd hl hq=>Bj us (vI (m:=2) hl rfl) (fun _ _ hq=>BindsTo.of_defaults rfl ht hd rfl rfl M A E Q hq) hq),
   ao (st:=cT) h2a h2b h2c,
   (ao (st:=cT) h2a h2b h2c).binds (ps:=["self"]) (fun _ _ _ _ _ _ us hl=>Ha us hl fun _=>rfl),
   ao (st:=cU) h2e h2f h2g,
   (ao (st:=cU) h2e h2f h2g).binds (ps:=["self","name"]) (fun _ _ _ _ _ _ us hl=>Bj us hl fun _ _=>rfl),
   (lF (st:=bR) h2i h2j h2k h2l),
   (lF (st:=bR) h2i h2j h2k h2l).binds (es:=[]) (fun T _ _ _ _ _ _ us M A E Q s to n ht hc hd hl hq=>el4 us (vI (m:=4) hl rfl) (fun _ _ _ _ hq=>BindsTo.of_defaults rfl ht hd rfl rfl M A E Q hq) hq),
   (lF (st:=bR) h2i h2j h2k h2l).binds (fun T _ _ _ _ _ _ us M A E Q s to n ht hc hd hl hq=>VN us (vI (m:=3) hl rfl) (fun _ _ _ hq=>BindsTo.of_defaults rfl ht hd rfl rfl M A E Q hq) hq),
   .cons rfl (.nil),
   (lF (st:=bI) h2n h2o h2p h2q),
   (lF (st:=bI) h2n h2o h2p h2q).binds (fun T _ _ _ _ _ _ us M A E Q s to n ht hc hd hl hq=>VN us (vI (m:=3) hl rfl) (fun _ _ _ hq=>BindsTo.of_defaults rfl ht hd rfl rfl M A E Q hq) hq),
   .cons rfl (.nil),
   ao (st:=bJ) h2s h2t h2u,
   (ao (st:=bJ) h2s h2t h2u).binds (ps:=["self","name","each","rows","ways"]) (fun _ _ _ _ _ _ us hl=>el5 us hl fun _ _ _ _ _=>rfl),
   ao (st:=bK) h2w h2x h2y,
   (ao (st:=bK) h2w h2x h2y).binds (ps:=["self","name","sheets","totals"]) (fun _ _ _ _ _ _ us hl=>el4 us hl fun _ _ _ _=>rfl),
   ao (st:=gf) h30 h31 h32,
   (ao (st:=gf) h30 h31 h32).binds (ps:=["paper"]) (fun _ _ _ _ _ _ us hl=>Ha us hl fun _=>rfl),
   h32,
   W.mg_of X G h2z,
   ao (st:=gh) h34 h35 h36,
   (ao (st:=gh) h34 h35 h36).binds (ps:=["totals","name","known"]) (fun _ _ _ _ _ _ us hl=>VN us hl fun _ _ _=>rfl),
   h36,
   W.mg_of X G h33,
   ao (st:=cV) h38 h39 h3a,
   (ao (st:=cV) h38 h39 h3a).binds (ps:=["paper","name"]) (fun _ _ _ _ _ _ us hl=>Bj us hl fun _ _=>rfl),
   h3a,
   W.mg_of X G h37,
   ao (st:=dG) h3c h3d h3e,
   (ao (st:=dG) h3c h3d h3e).binds (ps:=["paper"]) (fun _ _ _ _ _ _ us hl=>Ha us hl fun _=>rfl),
   h3e,
   W.mg_of X G h3b,
   ao (st:=bL) h3g h3h h3i,
   (ao (st:=bL) h3g h3h h3i).binds (ps:=["paper"]) (fun _ _ _ _ _ _ us hl=>Ha us hl fun _=>rfl),
   h3i,
   W.mg_of X G h3f,
   ao (st:=eO) h3k h3l h3m,
   (ao (st:=eO) h3k h3l h3m).binds (ps:=["row"]) (fun _ _ _ _ _ _ us hl=>Ha us hl fun _=>rfl),
   h3m,
   W.mg_of X G h3j,
   ao (st:=gj) h3o h3p h3q,
   (ao (st:=gj) h3o h3p h3q).binds (ps:=["saying"]) (fun _ _ _ _ _ _ us hl=>Ha us hl fun _=>rfl),
   h3q,
   W.mg_of X G h3n,
   ao (st:=cX) h3s h3t h3u,
   (ao (st:=cX) h3s h3t h3u).binds (ps:=["each","kinds"]) (fun _ _ _ _ _ _ us hl=>Bj us hl fun _ _=>rfl),
   h3u,
   W.mg_of X G h3r,
   ao (st:=bZ) h3w h3x h3y,
   (ao (st:=bZ) h3w h3x h3y).binds (ps:=["saying","kinds","totals"]) (fun _ _ _ _ _ _ us hl=>VN us hl fun _ _ _=>rfl),
   h3y,
   W.mg_of X G h3v,
   ao (st:=b7) h40 h41 h42,
   (ao (st:=b7) h40 h41 h42).binds (ps:=["parts","kinds","totals"]) (fun _ _ _ _ _ _ us hl=>VN us hl fun _ _ _=>rfl),
   h42,
   W.mg_of X G h3z,
   ao (st:=b8) h44 h45 h46,
   (ao (st:=b8) h44 h45 h46).binds (ps:=["paper"]) (fun _ _ _ _ _ _ us hl=>Ha us hl fun _=>rfl),
   h46,
   W.mg_of X G h43,
   ao (st:=gU) h48 h49 h4a,
   (ao (st:=gU) h48 h49 h4a).binds (ps:=["parts","totals"]) (fun _ _ _ _ _ _ us hl=>Bj us hl fun _ _=>rfl),
   h4a,
   W.mg_of X G h47,
   ao (st:=cg) h4c h4d h4e,
   (ao (st:=cg) h4c h4d h4e).binds (ps:=["paper"]) (fun _ _ _ _ _ _ us hl=>Ha us hl fun _=>rfl),
   h4e,
   W.mg_of X G h4b,
   ao (st:=bM) h4g h4h h4i,
   (ao (st:=bM) h4g h4h h4i).binds (ps:=["self","paper"]) (fun _ _ _ _ _ _ us hl=>Bj us hl fun _ _=>rfl),
   ao (st:=aK) h4k h4l h4m,
   (ao (st:=aK) h4k h4l h4m).binds (ps:=["self","question"]) (fun _ _ _ _ _ _ us hl=>Bj us hl fun _ _=>rfl),
   ao (st:=aV) h4o h4p h4q,
   (ao (st:=aV) h4o h4p h4q).binds (ps:=["self","question","here"]) (fun _ _ _ _ _ _ us hl=>VN us hl fun _ _ _=>rfl),
   ao (st:=aC) h4s h4t h4u,
   (ao (st:=aC) h4s h4t h4u).binds (ps:=["self","question","here"]) (fun _ _ _ _ _ _ us hl=>VN us hl fun _ _ _=>rfl),
   ao (st:=aL) h4w h4x h4y,
   (ao (st:=aL) h4w h4x h4y).binds (ps:=["self","name","here"]) (fun _ _ _ _ _ _ us hl=>VN us hl fun _ _ _=>rfl),
   ao (st:=aF) h50 h51 h52,
   (ao (st:=aF) h50 h51 h52).binds (ps:=["self","saying","here"]) (fun _ _ _ _ _ _ us hl=>VN us hl fun _ _ _=>rfl),
   ao (st:=aJ) h54 h55 h56,
   (ao (st:=aJ) h54 h55 h56).binds (ps:=["self","place"]) (fun _ _ _ _ _ _ us hl=>Bj us hl fun _ _=>rfl),
   ao (st:=bN) h58 h59 h5a,
   (ao (st:=bN) h58 h59 h5a).binds (ps:=["paper"]) (fun _ _ _ _ _ _ us hl=>Ha us hl fun _=>rfl),
   h5a,
   W.mg_of X G h57,
   ao (st:=gW) h5c h5d h5e,
   (ao (st:=gW) h5c h5d h5e).binds (ps:=["paper"]) (fun _ _ _ _ _ _ us hl=>Ha us hl fun _=>rfl),
   h5e,
   W.mg_of X G h5b,
   (lF (st:=cY) h5g h5h h5i h5j),
   (lF (st:=cY) h5g h5h h5i h5j).binds (es:=[]) (fun T _ _ _ _ _ _ us M A E Q s to n ht hc hd hl hq=>el4 us (vI (m:=4) hl rfl) (fun _ _ _ _ hq=>BindsTo.of_defaults rfl ht hd rfl rfl M A E Q hq) hq),
   (lF (st:=cY) h5g h5h h5i h5j).binds (fun T _ _ _ _ _ _ us M A E Q s to n ht hc hd hl hq=>VN us (vI (m:=3) hl rfl) (fun _ _ _ hq=>BindsTo.of_defaults rfl ht hd rfl rfl M A E Q hq) hq),
   .cons rfl (.nil),
   ao (st:=dY) h5l h5m h5n,
   (ao (st:=dY) h5l h5m h5n).binds (ps:=["self"]) (fun _ _ _ _ _ _ us hl=>Ha us hl fun _=>rfl),
   ao (st:=cZ) h5p h5q h5r,
   (ao (st:=cZ) h5p h5q h5r).binds (ps:=["self","kinds"]) (fun _ _ _ _ _ _ us hl=>Bj us hl fun _ _=>rfl),
   ao (st:=bf) h5t h5u h5v,
   (ao (st:=bf) h5t h5u h5v).binds (ps:=["self","name","how","number"]) (fun _ _ _ _ _ _ us hl=>el4 us hl fun _ _ _ _=>rfl),
   ao (st:=bx) h5x h5y h5z,
   (ao (st:=bx) h5x h5y h5z).binds (ps:=["self"]) (fun _ _ _ _ _ _ us hl=>Ha us hl fun _=>rfl),
   ao (st:=aW) h61 h62 h63,
   (ao (st:=aW) h61 h62 h63).binds (ps:=["self","kinds"]) (fun _ _ _ _ _ _ us hl=>Bj us hl fun _ _=>rfl),
   ao (st:=dg) h65 h66 h67,
   (ao (st:=dg) h65 h66 h67).binds (ps:=["self","test"]) (fun _ _ _ _ _ _ us hl=>Bj us hl fun _ _=>rfl),
   ao (st:=dH) h69 h6a h6b,
   (ao (st:=dH) h69 h6a h6b).binds (ps:=["self"]) (fun _ _ _ _ _ _ us hl=>Ha us hl fun _=>rfl),
   ao (st:=cj) h6d h6e h6f,
   (ao (st:=cj) h6d h6e h6f).binds (ps:=["self","one","other"]) (fun _ _ _ _ _ _ us hl=>VN us hl fun _ _ _=>rfl),
   ao (st:=dh) h6h h6i h6j,
   (ao (st:=dh) h6h h6i h6j).binds (ps:=["self"]) (fun _ _ _ _ _ _ us hl=>Ha us hl fun _=>rfl),
   ao (st:=gm) h6l h6m h6n,
   (ao (st:=gm) h6l h6m h6n).binds (ps:=["_law_script","_law_k"]) (fun _ _ _ _ _ _ us hl=>Bj us hl fun _ _=>rfl),
   h6n,
   W.mg_of X G h6k,
   ao (st:=gn) h6p h6q h6r,
   (ao (st:=gn) h6p h6q h6r).binds (ps:=["_law_script","_law_k"]) (fun _ _ _ _ _ _ us hl=>Bj us hl fun _ _=>rfl),
   h6r,
   W.mg_of X G h6o,
   ao (st:=eQ) h6t h6u h6v,
   (ao (st:=eQ) h6t h6u h6v).binds (ps:=["_law_e"]) (fun _ _ _ _ _ _ us hl=>Ha us hl fun _=>rfl),
   h6v,
   W.mg_of X G h6s,
   ao (st:=eU) h6x h6y h6z,
   (ao (st:=eU) h6x h6y h6z).binds (ps:=["_law_paper"]) (fun _ _ _ _ _ _ us hl=>Ha us hl fun _=>rfl),
   h6z,
   W.mg_of X G h6w,
   ao (st:=eV) h71 h72 h73,
   (ao (st:=eV) h71 h72 h73).binds (ps:=["_law_script"]) (fun _ _ _ _ _ _ us hl=>Ha us hl fun _=>rfl),
   h73,
   W.mg_of X G h70,
   ao (st:=eY) h75 h76 h77,
   (ao (st:=eY) h75 h76 h77).binds (ps:=["_law_script","_law_cell_here"]) (fun _ _ _ _ _ _ us hl=>Bj us hl fun _ _=>rfl),
   h77,
   W.mg_of X G h74,
   ao (st:=gq) h79 h7a h7b,
   (ao (st:=gq) h79 h7a h7b).binds (ps:=["_law_script","_law_cell_here"]) (fun _ _ _ _ _ _ us hl=>Bj us hl fun _ _=>rfl),
   h7b,
   W.mg_of X G h78,
   ao (st:=gr) h7d h7e h7f,
   (ao (st:=gr) h7d h7e h7f).binds (ps:=["_law_kinds_here","_law_script","_law_name_here"]) (fun _ _ _ _ _ _ us hl=>VN us hl fun _ _ _=>rfl),
   h7f,
   W.mg_of X G h7c,
   ao (st:=gY) h7h h7i h7j,
   (ao (st:=gY) h7h h7i h7j).binds (ps:=["_law_kinds_here","_law_script","_law_atom_here"]) (fun _ _ _ _ _ _ us hl=>VN us hl fun _ _ _=>rfl),
   h7j,
   W.mg_of X G h7g,
   ao (st:=dZ) h7l h7m h7n,
   (ao (st:=dZ) h7l h7m h7n).binds (ps:=["_law_atoms","_law_cell_here"]) (fun _ _ _ _ _ _ us hl=>Bj us hl fun _ _=>rfl),
   h7n,
   W.mg_of X G h7k,
   ao (st:=gw) h7p h7q h7r,
   (ao (st:=gw) h7p h7q h7r).binds (ps:=["_law_script","_law_kinds_here"]) (fun _ _ _ _ _ _ us hl=>Bj us hl fun _ _=>rfl),
   h7r,
   W.mg_of X G h7o,
   ao (st:=eZ) h7t h7u h7v,
   (ao (st:=eZ) h7t h7u h7v).binds (ps:=["_law_script","_law_kinds_here"]) (fun _ _ _ _ _ _ us hl=>Bj us hl fun _ _=>rfl),
   h7v,
   W.mg_of X G h7s,
   ao (st:=Ae) h7x h7y h7z,
   W.mg_of X G h7w,
   W.mg_of X G h80,
   abU h81 h82 h83 h84 h85 h86,
   W.mg_none_of X G h87,
   W.mg_none_of X G h88,
   W.mg_none_of X G h89,
   W.mg_none_of X G h8a,
   W.mg_none_of X G h8b,
   W.mg_none_of X G h8c,
   W.mg_none_of X G h8d,
   W.mg_none_of X G h8e,
   W.mg_none_of X G h8f,
   W.mg_none_of X G h8g,
   W.mg_none_of X G h8h,
   L2.Sx (by symm),
   L2.Sx (by symm),
   L2.Sx (by symm),
   W.mg_of X G h8i,
   ⟨_,W.mg_of X G h8i,rfl⟩,
   W.mg_of X G h8j,
   ⟨_,W.mg_of X G h8j,rfl⟩,
   W.mg_of X G h8k,
   W.mg_of X G h8l,
   W.mg_of X G h8m,
   W.mg_of X G h8n,
   W.mg_of X G h8o,
   ⟨_,W.mg_of X G h8o,rfl⟩,
   W.mg_of X G h8p,
   W.mg_of X G h8q,
   W.mg_of X G h8r,
   ⟨_,W.mg_of X G h8r,rfl⟩,
   ⟨_,W.mg_of X G h8s,rfl⟩,
   W.mg_of X G h8t,
   ⟨_,W.mg_of X G h8u,rfl⟩,
   W.mg_of X G h8w,
   W.mg_of X G h8x,
   ⟨_,W.mg_of X G h8x,rfl⟩,
   W.mg_of X G h8y,
   ⟨_,W.mg_of X G h8z,rfl⟩,
   W.mg_of X G h90,
   W.mg_of X G h92,
   ⟨_,W.mg_of X G h93,rfl⟩,
   W.mg_of X G h94,
   ⟨_,W.mg_of X G h94,rfl⟩,
   W.mg_of X G h95,
   ⟨_,W.mg_of X G h95,rfl⟩,
   W.mg_of X G h96,
   ⟨_,W.mg_of X G h96,rfl⟩,
   W.mg_of X G h97,
   ⟨_,W.mg_of X G h97,rfl⟩,
   ⟨MK h9z ha0 ha1 ha2 ha3 h9y h9a ha4,ha5,ha6,ha7⟩,
   Mu ha8 ha9 h9q haa hab hac had hae,
   ⟨haf,hag,hah,MN h9z ha1,had⟩,
   ⟨ha8,ha9,hag,hah,hae⟩,
   ⟨MK hai haj hak hal ham h9y h9a han,hao,hap,haq⟩,
   Mu har has h9u hat hau hav haw hax,
   ⟨hay,haz,hb0,MN hai hak,haw⟩,
   ⟨har,has,haz,hb0,hax⟩,
   ⟨hb1,hb2,hb3⟩,
   U8 hb4 h9a h9b hb5,
   U8 hb6 h9a h9b hb7,
   yC h9o h9p hb8 hb9,
   lR,
   yC h9u h9v hba hbb,
   yC h9g h9h hbc hbd,
   yC h9m h9n hbe hbf,
   yC h9i h9j hbg hbh,
   yC h9a h9b hbi hbj,
   yC h9o h9p hbk hbl,
   yC h9q h9r hbm hbn,
   lR,
   yC h9g h9h hbo hbp,
   yC h9m h9n hbq hbr,
   yC h9i h9j hbs hbt,
   yC h9a h9b hbu hbv,
   lR,
   yC h98 h99 hbw hbx,
   lR,
   yC h9c h9d hby hbz,
   lR,
   yC h9k h9l hc0 hc1,
   yC h9s h9t hc2 hc3,
   yC h9e h9f hc4 hc5,
   yC h9w h9x hc6 hc7,
   yC h9k h9l hc8 hc9,
   lR,
   yC h9e h9f hca hcb,
   yC h9w h9x hcc hcd,
   yC h9k h9l hce hcf,
   yC h9s h9t hcg hch,
   yC h9e h9f hci hcj,
   yC h9w h9x hck hcl,
   lR,
   yC h9s h9t hcm hcn,
   yC h9e h9f hco hcp,
   yC h9w h9x hcq hcr,
   yC h9k h9l hcs hct,
   yC h9s h9t hcu hcv,
   lR,
   U7 h9w h9x hcw,
   U7 h9k h9l hcx,
   U6 (by symm) hcy,
   U6 (by symm) hcz,
   ⟨hd0,hd1,hd2,hd3⟩,
   fun _ _ _ _ e=>.ins e ⟨hd0,hd1,hd2,hd3⟩ hd4 hd5 hd6 hd7,
   ⟨hd8,hd9,hda,hdb⟩,
   ⟨hdc,hdd,h0z⟩,
   ⟨hde,hdf,h0n⟩,
   ⟨hdg,hdh,h0r⟩,
   ⟨hdi,hdj,h0v⟩,
   hdk,
   hdl,
   ⟨hdm,hdn,hdo,hdp⟩,
   fun _ _ _ _ e=>.ins e ⟨hdm,hdn,hdo,hdp⟩ hdq hdr hds hdt,
   ⟨hdu,hdv,hdw,hdx⟩,
   ⟨hdy,hdz,h13⟩,
   ⟨he0,he1,h1b⟩,
   ⟨he2,he3,h17⟩,
   he4,
   he5,
   ⟨he6,he7,he8,he9⟩,
   fun _ _ _ _ e=>.ins e ⟨he6,he7,he8,he9⟩ Bf heb hec hed,
   ⟨hee,hef,heg,heh⟩,
   ⟨hei,hej,h1f⟩,
   ⟨hek,hel,h1j⟩,
   ⟨hem,hen,h17⟩,
   heo,
   hep,
   ⟨heq,her,hes,het⟩,
   fun _ _ _ _ e=>.ins e ⟨heq,her,hes,het⟩ heu hev hew hex,
   ⟨hey,hez,hf0,hf1⟩,
   ⟨hf2,hf3,h23⟩,
   ⟨hf4,hf5,h1r⟩,
   ⟨hf6,hf7,h1v⟩,
   ⟨hf8,hf9,h1z⟩,
   hfa,
   hfb,
   hfc,
   ⟨hfd,hfe,hff,hfg⟩,
   fun _ _ _ _ e=>.ins e ⟨hfd,hfe,hff,hfg⟩ hfh hfi hfj hfk,
   ⟨hfl,hfm,hfn,hfo⟩,
   ⟨hfp,hfq,h2c⟩,
   hfr,
   hfs,
   ⟨hft,hfu,hfv,hfw⟩,
   fun _ _ _ _ e=>.ins e ⟨hft,hfu,hfv,hfw⟩ hfx hfy hfz hg0,
   ⟨hg1,hg2,hg3,hg4⟩,
   hg5,
   hg6,
   hg7,
   ⟨hg8,hg9,hga,hgb⟩,
   fun _ _ _ _ e=>.ins e ⟨hg8,hg9,hga,hgb⟩ hgc hgd hge hgf,
   ⟨hgg,hgh,hgi,hgj⟩,
   hgk,
   hgl,
   hgm,
   ⟨hgn,hgo,hgp,hgq⟩,
   ⟨hgr,hgs,hgt,hgu⟩,
   hgv,
   hgw,
   hgx,
   hgy,
   ⟨hgz,hh0,hh1,hh2⟩,
   ⟨hh3,hh4,hh5,hh6⟩,
   hh7,
   hh8,
   hh9,
   ⟨hha,hhb,hhc,hhd⟩,
   ⟨hhe,hhf,hhg,hhh⟩,
   ⟨hhi,hhj,h4y⟩,
   ⟨hhk,hhl,h56⟩,
   ⟨hhm,hhn,h52⟩,
   ⟨hho,hhp,h4m⟩,
   ⟨hhq,hhr,h4q⟩,
   ⟨hhs,hht,h4u⟩,
   hhu,
   hhv,
   ⟨hhw,hhx,hhy,hhz⟩,
   fun _ _ _ _ e=>.ins e ⟨hhw,hhx,hhy,hhz⟩ hi0 hi1 hi2 hi3,
   ⟨hi4,hi5,hi6,hi7⟩,
   ⟨hi8,hi9,h5n⟩,
   ⟨hia,hib,h5r⟩,
   hic,
   hid,
   hie,
   ⟨hif,hig,hih,hii⟩,
   fun _ _ _ _ e=>.ins e ⟨hif,hig,hih,hii⟩ hij hik hil him,
   ⟨hin,hio,hip,hiq⟩,
   ⟨hir,his,h5z⟩,
   ⟨hit,hiu,h63⟩,
   hiv,
   hiw,
   hix,
   ⟨hiy,hiz,hj0,hj1⟩,
   ⟨hj2,hj3,hj4,hj5⟩,
   ⟨hj6,hj7,h6b⟩,
   hj8,
   ⟨hj9,hja,hjb,hjc⟩,
   ⟨hjd,hje,hjf,hjg⟩,
   ⟨hjh,hji,h6j⟩,
   hjj,
   hjk,
   ⟨hjl,hjm,hjn,hjo⟩,
   ⟨hjp,hjq,hjr,hjs⟩,
   ⟨hjt,hju,h6j⟩,
   hjv,
   hjw,
   ⟨hjx,hjy,hjz,h0f⟩,
   ⟨hk0,hk1,hk2,h2g⟩⟩⟩
theorem walk {l:W.OpenLaw}{q:Program}{loose:List Str}{XP:(Str→Option Value)→Heap→Prop}{YP:World→Heap→Prop}{d:DefRec}{K:Params→W.Frag} (hn:l.most=some 63) (hdf:d.params.defaults=[]) (hnm:d.name="law")
   (hY:∀ (w:World) (h:Heap),YP w h→(K w.params).In h)
   (F:∀ (w:World) (mg:Str→Option Value) (h:Heap),(K w.params).In h→h.Ns mainGlobals mg→∃ A:dq,Txt (K w.params) mg A) :
   W.WalkO q loose XP YP l.row.toRowW d [] (fun f vs=>PySem.call f vs):=by
 refine L2.Yq (n:=63) (k:=40) (x:="_law_script") (CX:=fun _=>dR) (sp:=fun w=>aa4 (K w.params)) hn (by decide) hdf ⟨rfl,by decide,by decide⟩ hY (fun w mg fa h KX G hmg=>?_) (fun w H a ns hl hb _ hS=>⟨a,ns,rfl,hS,hl,hb,fun _=>rfl⟩) fun _ _ _ _ _ z=>z
 obtain⟨A,T⟩:=F w mg h KX G
 rw [hnm] at hmg
 have e:=hmg.symm.trans T.aiV
 cases e
 obtain⟨oc,od,kV,doc,pm,an,cdv,ct,osl,efd,lk,hcd⟩:=id T.adi.ex
 exact⟨A.ZM,fun s v=>by rw [efd];exact .of_eq rfl,fun base _ _=>afG T⟩
end lV
open PySem PySem.W PyProof.Rows
set_option maxRecDepth 100000 in
set_option maxHeartbeats 0 in
theorem PySem.Challenge.cw_askpaper_k33_names_that_suit_holds : PySem.Challenge.rw_askpaper_k33_names_that_suit.Holds := by
 refine PySem.Challenge.hd33 ?_
 k_fill
 refine lV.walk (l := PySem.Challenge.rw_askpaper_k33_names_that_suit) rfl rfl rfl (fun w h Y => W.kIn_of Y) ?F
 case F =>
   intro w mg h KX G
   have T : ∃ A : lV.dq, lV.Txt (L2.KOf KX) mg A := by
     dsimp only [L2.KOf]
     refine' lV.afO KX G ?h8i ?h8j ?h8k ?h8l ?h8m ?h8n ?h8o ?h8p ?h8q ?h8r ?h8s ?h8t ?h8u ?h8v ?h8w ?h8x ?h8y ?h8z ?h90 ?h91 ?h92 ?h93 ?h94 ?h95 ?h96 ?h97 ?h00 ?h01 ?h02 ?h03 ?h04 ?h05 ?h06 ?h07 ?h08 ?h09 ?h0a ?h0b ?h0c ?h0d ?h0e ?h0f ?h0g ?h0h ?h0i ?h0j ?h0k ?h0l ?h0m ?h0n ?h0o ?h0p ?h0q ?h0r ?h0s ?h0t ?h0u ?h0v ?h0w ?h0x ?h0y ?h0z ?h10 ?h11 ?h12 ?h13 ?h14 ?h15 ?h16 ?h17 ?h18 ?h19 ?h1a ?h1b ?h1c ?h1d ?h1e ?h1f ?h1g ?h1h ?h1i ?h1j ?h1k ?h1l ?h1m ?h1n ?h1o ?h1p ?h1q ?h1r ?h1s ?h1t ?h1u ?h1v ?h1w ?h1x ?h1y ?h1z ?h20 ?h21 ?h22 ?h23 ?h24 ?h25 ?h26 ?h27 ?h28 ?h29 ?h2a ?h2b ?h2c ?h2d ?h2e ?h2f ?h2g ?h2h ?h2i ?h2j ?h2k ?h2l ?h2m ?h2n ?h2o ?h2p ?h2q ?h2r ?h2s ?h2t ?h2u ?h2v ?h2w ?h2x ?h2y ?h2z ?h30 ?h31 ?h32 ?h33 ?h34 ?h35 ?h36 ?h37 ?h38 ?h39 ?h3a ?h3b ?h3c ?h3d ?h3e ?h3f ?h3g ?h3h ?h3i ?h3j ?h3k ?h3l ?h3m ?h3n ?h3o ?h3p ?h3q ?h3r ?h3s ?h3t ?h3u ?h3v ?h3w ?h3x ?h3y ?h3z ?h40 ?h41 ?h42 ?h43 ?h44 ?h45 ?h46 ?h47 ?h48 ?h49 ?h4a ?h4b ?h4c ?h4d ?h4e ?h4f ?h4g ?h4h ?h4i ?h4j ?h4k ?h4l ?h4m ?h4n ?h4o ?h4p ?h4q ?h4r ?h4s ?h4t ?h4u ?h4v ?h4w ?h4x ?h4y ?h4z ?h50 ?h51 ?h52 ?h53 ?h54 ?h55 ?h56 ?h57 ?h58 ?h59 ?h5a ?h5b ?h5c ?h5d ?h5e ?h5f ?h5g ?h5h ?h5i ?h5j ?h5k ?h5l ?h5m ?h5n ?h5o ?h5p ?h5q ?h5r ?h5s ?h5t ?h5u ?h5v ?h5w ?h5x ?h5y ?h5z ?h60 ?h61 ?h62 ?h63 ?h64 ?h65 ?h66 ?h67 ?h68 ?h69 ?h6a ?h6b ?h6c ?h6d ?h6e ?h6f ?h6g ?h6h ?h6i ?h6j ?h6k ?h6l ?h6m ?h6n ?h6o ?h6p ?h6q ?h6r ?h6s ?h6t ?h6u ?h6v ?h6w ?h6x ?h6y ?h6z ?h70 ?h71 ?h72 ?h73 ?h74 ?h75 ?h76 ?h77 ?h78 ?h79 ?h7a ?h7b ?h7c ?h7d ?h7e ?h7f ?h7g ?h7h ?h7i ?h7j ?h7k ?h7l ?h7m ?h7n ?h7o ?h7p ?h7q ?h7r ?h7s ?h7t ?h7u ?h7v ?h7w ?h7x ?h7y ?h7z ?h80 ?h81 ?h82 ?h83 ?h84 ?h85 ?h86 ?h87 ?h88 ?h89 ?h8a ?h8b ?h8c ?h8d ?h8e ?h8f ?h8g ?h8h ?h98 ?h99 ?h9a ?h9b ?h9c ?h9d ?h9e ?h9f ?h9g ?h9h ?h9i ?h9j ?h9k ?h9l ?h9m ?h9n ?h9o ?h9p ?h9q ?h9r ?h9s ?h9t ?h9u ?h9v ?h9w ?h9x ?h9y ?h9z ?ha0 ?ha1 ?ha2 ?ha3 ?ha4 ?ha5 ?ha6 ?ha7 ?ha8 ?ha9 ?haa ?hab ?hac ?had ?hae ?haf ?hag ?hah ?hai ?haj ?hak ?hal ?ham ?han ?hao ?hap ?haq ?har ?has ?hat ?hau ?hav ?haw ?hax ?hay ?haz ?hb0 ?hb1 ?hb2 ?hb3 ?hb4 ?hb5 ?hb6 ?hb7 ?hb8 ?hb9 ?hba ?hbb ?hbc ?hbd ?hbe ?hbf ?hbg ?hbh ?hbi ?hbj ?hbk ?hbl ?hbm ?hbn ?hbo ?hbp ?hbq ?hbr ?hbs ?hbt ?hbu ?hbv ?hbw ?hbx ?hby ?hbz ?hc0 ?hc1 ?hc2 ?hc3 ?hc4 ?hc5 ?hc6 ?hc7 ?hc8 ?hc9 ?hca ?hcb ?hcc ?hcd ?hce ?hcf ?hcg ?hch ?hci ?hcj ?hck ?hcl ?hcm ?hcn ?hco ?hcp ?hcq ?hcr ?hcs ?hct ?hcu ?hcv ?hcw ?hcx ?hcy ?hcz ?hd0 ?hd1 ?hd2 ?hd3 ?hd4 ?hd5 ?hd6 ?hd7 ?hd8 ?hd9 ?hda ?hdb ?hdc ?hdd ?hde ?hdf ?hdg ?hdh ?hdi ?hdj ?hdk ?hdl ?hdm ?hdn ?hdo ?hdp ?hdq ?hdr ?hds ?hdt ?hdu ?hdv ?hdw ?hdx ?hdy ?hdz ?he0 ?he1 ?he2 ?he3 ?he4 ?he5 ?he6 ?he7 ?he8 ?he9 ?Bf ?heb ?hec ?hed ?hee ?hef ?heg ?heh ?hei ?hej ?hek ?hel ?hem ?hen ?heo ?hep ?heq ?her ?hes ?het ?heu ?hev ?hew ?hex ?hey ?hez ?hf0 ?hf1 ?hf2 ?hf3 ?hf4 ?hf5 ?hf6 ?hf7 ?hf8 ?hf9 ?hfa ?hfb ?hfc ?hfd ?hfe ?hff ?hfg ?hfh ?hfi ?hfj ?hfk ?hfl ?hfm ?hfn ?hfo ?hfp ?hfq ?hfr ?hfs ?hft ?hfu ?hfv ?hfw ?hfx ?hfy ?hfz ?hg0 ?hg1 ?hg2 ?hg3 ?hg4 ?hg5 ?hg6 ?hg7 ?hg8 ?hg9 ?hga ?hgb ?hgc ?hgd ?hge ?hgf ?hgg ?hgh ?hgi ?hgj ?hgk ?hgl ?hgm ?hgn ?hgo ?hgp ?hgq ?hgr ?hgs ?hgt ?hgu ?hgv ?hgw ?hgx ?hgy ?hgz ?hh0 ?hh1 ?hh2 ?hh3 ?hh4 ?hh5 ?hh6 ?hh7 ?hh8 ?hh9 ?hha ?hhb ?hhc ?hhd ?hhe ?hhf ?hhg ?hhh ?hhi ?hhj ?hhk ?hhl ?hhm ?hhn ?hho ?hhp ?hhq ?hhr ?hhs ?hht ?hhu ?hhv ?hhw ?hhx ?hhy ?hhz ?hi0 ?hi1 ?hi2 ?hi3 ?hi4 ?hi5 ?hi6 ?hi7 ?hi8 ?hi9 ?hia ?hib ?hic ?hid ?hie ?hif ?hig ?hih ?hii ?hij ?hik ?hil ?him ?hin ?hio ?hip ?hiq ?hir ?his ?hit ?hiu ?hiv ?hiw ?hix ?hiy ?hiz ?hj0 ?hj1 ?hj2 ?hj3 ?hj4 ?hj5 ?hj6 ?hj7 ?hj8 ?hj9 ?hja ?hjb ?hjc ?hjd ?hje ?hjf ?hjg ?hjh ?hji ?hjj ?hjk ?hjl ?hjm ?hjn ?hjo ?hjp ?hjq ?hjr ?hjs ?hjt ?hju ?hjv ?hjw ?hjx ?hjy ?hjz ?hk0 ?hk1 ?hk2
     (case h8i|h8j|h8k|h8l|h8m|h8n|h8o|h8p|h8q|h8r|h8s|h8t|h8u|h8v|h8w|h8x|h8y|h8z|h90|h91|h92|h93|h94|h95|h96|h97|h00|h01|h02|h03|h04|h05|h06|h07|h08|h09|h0a|h0b|h0c|h0d|h0e|h0f|h0g|h0h|h0i|h0j|h0k|h0l|h0m|h0n|h0o|h0p|h0q|h0r|h0s|h0t|h0u|h0v|h0w|h0x|h0y|h0z|h10|h11|h12|h13|h14|h15|h16|h17|h18|h19|h1a|h1b|h1c|h1d|h1e|h1f|h1g|h1h|h1i|h1j|h1k|h1l|h1m|h1n|h1o|h1p|h1q|h1r|h1s|h1t|h1u|h1v|h1w|h1x|h1y|h1z|h20|h21|h22|h23|h24|h25|h26|h27|h28|h29|h2a|h2b|h2c|h2d|h2e|h2f|h2g|h2h|h2i|h2j|h2k|h2l|h2m|h2n|h2o|h2p|h2q|h2r|h2s|h2t|h2u|h2v|h2w|h2x|h2y|h2z|h30|h31|h32|h33|h34|h35|h36|h37|h38|h39|h3a|h3b|h3c|h3d|h3e|h3f|h3g|h3h|h3i|h3j|h3k|h3l|h3m|h3n|h3o|h3p|h3q|h3r|h3s|h3t|h3u|h3v|h3w|h3x|h3y|h3z|h40|h41|h42|h43|h44|h45|h46|h47|h48|h49|h4a|h4b|h4c|h4d|h4e|h4f|h4g|h4h|h4i|h4j|h4k|h4l|h4m|h4n|h4o|h4p|h4q|h4r|h4s|h4t|h4u|h4v|h4w|h4x|h4y|h4z|h50|h51|h52|h53|h54|h55|h56|h57|h58|h59|h5a|h5b|h5c|h5d|h5e|h5f|h5g|h5h|h5i|h5j|h5k|h5l|h5m|h5n|h5o|h5p|h5q|h5r|h5s|h5t|h5u|h5v|h5w|h5x|h5y|h5z|h60|h61|h62|h63|h64|h65|h66|h67|h68|h69|h6a|h6b|h6c|h6d|h6e|h6f|h6g|h6h|h6i|h6j|h6k|h6l|h6m|h6n|h6o|h6p|h6q|h6r|h6s|h6t|h6u|h6v|h6w|h6x|h6y|h6z|h70|h71|h72|h73|h74|h75|h76|h77|h78|h79|h7a|h7b|h7c|h7d|h7e|h7f|h7g|h7h|h7i|h7j|h7k|h7l|h7m|h7n|h7o|h7p|h7q|h7r|h7s|h7t|h7u|h7v|h7w|h7x|h7y|h7z|h80|h81 => k_is)
     (case h82 => rfl)
     (case h83 => rfl)
     (case h84 => rfl)
     (case h85 => rfl)
     (case h86 => exact .cons rfl rfl (.cons rfl rfl (.nil)))
     (case h87|h88|h89|h8a|h8b|h8c|h8d|h8e|h8f|h8g|h8h|h98|h99|h9a|h9b|h9c|h9d|h9e|h9f|h9g|h9h|h9i|h9j|h9k|h9l|h9m|h9n|h9o|h9p|h9q|h9r|h9s|h9t|h9u|h9v|h9w|h9x => k_is)
     (case h9y => k_exc)
     (case h9z => k_is)
     (case ha0 => rfl)
     (case ha1 => rfl)
     (case ha2 => exact ⟨rfl, rfl⟩)
     (case ha3 => rfl)
     (case ha4 => rfl)
     (case ha5|ha6|ha7|ha8|ha9|haa|hab|hac|had|hae|haf|hag|hah|hai => k_is)
     (case haj => rfl)
     (case hak => rfl)
     (case hal => exact ⟨rfl, rfl⟩)
     (case ham => rfl)
     (case han => rfl)
     (case hao|hap|haq|har|has|hat|hau|hav|haw|hax|hay|haz|hb0|hb1|hb2|hb3|hb4|hb5|hb6|hb7|hb8 => k_is)
     (case hb9 => rfl)
     (case hba => k_is)
     (case hbb => rfl)
     (case hbc => k_is)
     (case hbd => rfl)
     (case hbe => k_is)
     (case hbf => rfl)
     (case hbg => k_is)
     (case hbh => rfl)
     (case hbi => k_is)
     (case hbj => rfl)
     (case hbk => k_is)
     (case hbl => rfl)
     (case hbm => k_is)
     (case hbn => rfl)
     (case hbo => k_is)
     (case hbp => rfl)
     (case hbq => k_is)
     (case hbr => rfl)
     (case hbs => k_is)
     (case hbt => rfl)
     (case hbu => k_is)
     (case hbv => rfl)
     (case hbw => k_is)
     (case hbx => rfl)
     (case hby => k_is)
     (case hbz => rfl)
     (case hc0 => k_is)
     (case hc1 => rfl)
     (case hc2 => k_is)
     (case hc3 => rfl)
     (case hc4 => k_is)
     (case hc5 => rfl)
     (case hc6 => k_is)
     (case hc7 => rfl)
     (case hc8 => k_is)
     (case hc9 => rfl)
     (case hca => k_is)
     (case hcb => rfl)
     (case hcc => k_is)
     (case hcd => rfl)
     (case hce => k_is)
     (case hcf => rfl)
     (case hcg => k_is)
     (case hch => rfl)
     (case hci => k_is)
     (case hcj => rfl)
     (case hck => k_is)
     (case hcl => rfl)
     (case hcm => k_is)
     (case hcn => rfl)
     (case hco => k_is)
     (case hcp => rfl)
     (case hcq => k_is)
     (case hcr => rfl)
     (case hcs => k_is)
     (case hct => rfl)
     (case hcu => k_is)
     (case hcv => rfl)
     (case hcw|hcx|hcy|hcz|hd0|hd1|hd2|hd3|hd4|hd5|hd6|hd7|hd8|hd9|hda|hdb|hdc|hdd|hde|hdf|hdg|hdh|hdi|hdj|hdk|hdl|hdm|hdn|hdo|hdp|hdq|hdr|hds|hdt|hdu|hdv|hdw|hdx|hdy|hdz|he0|he1|he2|he3|he4|he5|he6|he7|he8|he9|Bf|heb|hec|hed|hee|hef|heg|heh|hei|hej|hek|hel|hem|hen|heo|hep|heq|her|hes|het|heu|hev|hew|hex|hey|hez|hf0|hf1|hf2|hf3|hf4|hf5|hf6|hf7|hf8|hf9|hfa|hfb|hfc|hfd|hfe|hff|hfg|hfh|hfi|hfj|hfk|hfl|hfm|hfn|hfo|hfp|hfq|hfr|hfs|hft|hfu|hfv|hfw|hfx|hfy|hfz|hg0|hg1|hg2|hg3|hg4|hg5|hg6|hg7|hg8|hg9|hga|hgb|hgc|hgd|hge|hgf|hgg|hgh|hgi|hgj|hgk|hgl|hgm|hgn|hgo|hgp|hgq|hgr|hgs|hgt|hgu|hgv|hgw|hgx|hgy|hgz|hh0|hh1|hh2|hh3|hh4|hh5|hh6|hh7|hh8|hh9|hha|hhb|hhc|hhd|hhe|hhf|hhg|hhh|hhi|hhj|hhk|hhl|hhm|hhn|hho|hhp|hhq|hhr|hhs|hht|hhu|hhv|hhw|hhx|hhy|hhz|hi0|hi1|hi2|hi3|hi4|hi5|hi6|hi7|hi8|hi9|hia|hib|hic|hid|hie|hif|hig|hih|hii|hij|hik|hil|him|hin|hio|hip|hiq|hir|his|hit|hiu|hiv|hiw|hix|hiy|hiz|hj0|hj1|hj2|hj3|hj4|hj5|hj6|hj7|hj8|hj9|hja|hjb|hjc|hjd|hje|hjf|hjg|hjh|hji|hjj|hjk|hjl|hjm|hjn|hjo|hjp|hjq|hjr|hjs|hjt|hju|hjv|hjw|hjx|hjy|hjz|hk0|hk1|hk2 => k_is)
   exact T
