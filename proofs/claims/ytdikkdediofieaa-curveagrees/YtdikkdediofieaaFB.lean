/- 2^255 - 19 is a prime. No program is run here. -/
import Derived.Test.YtdikkdediofieaaFA
namespace Go.Proofs.Ytdikkdediofieaa
theorem prm65147 : Prm 65147 := small_prime 65147 256 (by omega) (by omega) (by decide +kernel)
theorem prm430751 : Prm 430751 := small_prime 430751 657 (by omega) (by omega) (by decide +kernel)
theorem prm4153 : Prm 4153 := small_prime 4153 65 (by omega) (by omega) (by decide +kernel)
theorem prm8574133 : Prm 8574133 := small_prime 8574133 2929 (by omega) (by omega) (by decide +kernel)
theorem prm127 : Prm 127 := small_prime 127 12 (by omega) (by omega) (by decide +kernel)
theorem prm13 : Prm 13 := small_prime 13 4 (by omega) (by omega) (by decide +kernel)
theorem prm569003 : Prm 569003 := small_prime 569003 755 (by omega) (by omega) (by decide +kernel)
theorem prm2437 : Prm 2437 := small_prime 2437 50 (by omega) (by omega) (by decide +kernel)
theorem prm2773320623 : Prm 2773320623 :=
  pock2 2773320623 569003 2437 2 2 (by omega) prm569003 prm2437 (by decide) (by decide +kernel) (by decide +kernel) (by decide +kernel) 32 (by decide +kernel) (by omega) (by omega) (by decide +kernel) (by decide +kernel) (by decide +kernel) (by decide +kernel)
theorem prm72106336199 : Prm 72106336199 :=
  pock2 72106336199 2773320623 13 2 2 (by omega) prm2773320623 prm13 (by decide) (by decide +kernel) (by decide +kernel) (by decide +kernel) 37 (by decide +kernel) (by omega) (by omega) (by decide +kernel) (by decide +kernel) (by decide +kernel) (by decide +kernel)
theorem prm1919519569386763 : Prm 1919519569386763 :=
  pock2 1919519569386763 8574133 127 2 2 (by omega) prm8574133 prm127 (by decide) (by decide +kernel) (by decide +kernel) (by decide +kernel) 51 (by decide +kernel) (by omega) (by omega) (by decide +kernel) (by decide +kernel) (by decide +kernel) (by decide +kernel)
theorem prm31757755568855353 : Prm 31757755568855353 :=
  pock2 31757755568855353 430751 4153 2 2 (by omega) prm430751 prm4153 (by decide) (by decide +kernel) (by decide +kernel) (by decide +kernel) 55 (by decide +kernel) (by omega) (by omega) (by decide +kernel) (by decide +kernel) (by decide +kernel) (by decide +kernel)
theorem prm116 : Prm 75445702479781427272750846543864801 :=
  pock2 75445702479781427272750846543864801 72106336199 1919519569386763 2 2 (by omega) prm72106336199 prm1919519569386763 (by decide) (by decide +kernel) (by decide +kernel) (by decide +kernel) 116 (by decide +kernel) (by omega) (by omega) (by decide +kernel) (by decide +kernel) (by decide +kernel) (by decide +kernel)
theorem prm236 : Prm 74058212732561358302231226437062788676166966415465897661863160754340907 :=
  pock2 74058212732561358302231226437062788676166966415465897661863160754340907 75445702479781427272750846543864801 31757755568855353 2 2 (by omega) prm116 prm31757755568855353 (by decide) (by decide +kernel) (by decide +kernel) (by decide +kernel) 236 (by decide +kernel) (by omega) (by omega) (by decide +kernel) (by decide +kernel) (by decide +kernel) (by decide +kernel)
theorem prmP : Prm 57896044618658097711785492504343953926634992332820282019728792003956564819949 :=
  pock2 57896044618658097711785492504343953926634992332820282019728792003956564819949 74058212732561358302231226437062788676166966415465897661863160754340907 65147 2 2 (by omega) prm236 prm65147 (by decide) (by decide +kernel) (by decide +kernel) (by decide +kernel) 255 (by decide +kernel) (by omega) (by omega) (by decide +kernel) (by decide +kernel) (by decide +kernel) (by decide +kernel)
end Go.Proofs.Ytdikkdediofieaa
